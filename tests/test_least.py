"""Points 21 to 26: the least number of helpers, the least reach, far lists, rooms and pieces."""

import unittest
from itertools import chain, combinations, permutations, product

from evernear.least import (
    are_rooms, can_keep, farthest, fewest_rooms, is_far, least_helpers, least_reach, pieces, reach_steps,
)
from evernear.towns import with_road
from tests.samples import (
    LINE, SAMPLES, TOWN, TWO_PIECES, parts_of, plain_ranks, plain_ways, spread_town, towns_of,
)

RULES = ("one", "all")
# Towns without a road, of one piece, and of several.
BARE = [(places, []) for places in range(1, 8)]
THREE_PIECES = (6, [(0, 2, 1), (1, 4, 3)])
LONG_LINE = (7, [(place, place + 1, 9) for place in range(6)])
GREAT = spread_town(8, 7, 8)
TOWNS = [*SAMPLES, THREE_PIECES, *BARE[2:4]]
RING = (5, [(0, 1, 1), (0, 4, 1), (1, 2, 1), (2, 3, 1), (3, 4, 1)])
EVEN = (4, [(a, b, 2) for a, b in combinations(range(4), 2)])
ROAD = (5, [(0, 1, 2), (1, 2, 1), (2, 3, 3), (3, 4, 1)])


def called(town):
    places = list(range(town[0]))
    return [list(row) for row in sorted({tuple(places), tuple(places[-1:]), tuple(places[::2])})]


def plain_keep(town, helpers, calls, rule, reach):
    return None in plain_ranks(town, helpers, rule, reach, calls).values()


def plain_least(town, calls, rule, reach):
    return next((many for many in (1, 2, 3) if plain_keep(town, many, calls, rule, reach)), None)


def plain_is_far(town, places, rule, reach):
    between = plain_ways(town)
    limit = {"one": reach, "all": 2 * reach}[rule]
    return all(between[pair] is None or between[pair] > limit for pair in permutations(places, 2))


def plain_are_rooms(town, calls, rooms, reach):
    between = plain_ways(town)
    near = all(
        between[pair] is not None and between[pair] <= reach
        for room in rooms for pair in permutations(room, 2)
    )
    in_order = rooms == sorted(rooms) and all(room == sorted(room) for room in rooms)
    return near and in_order and all(rooms) and sorted(chain(*rooms)) == calls


def partitions(values):
    """All lists of lists that have each value just once; lists ascend, and so do the values in each."""
    if not values:
        yield []
        return
    for rest in partitions(values[1:]):
        yield [values[:1], *rest]
        for at, room in enumerate(rest):
            yield sorted([values[:1] + room, *rest[:at], *rest[at + 1:]])


def near_rooms(calls, rooms):
    """Rooms with one place or list exchanged, twice, left out, or out of order."""
    for at, room in enumerate(rooms):
        yield rooms[:at] + rooms[at + 1:]
        yield rooms[:at] + [room, []] + rooms[at + 1:]
        yield rooms[:at] + [room, room] + rooms[at + 1:]
        yield rooms[:at] + [room[::-1]] + rooms[at + 1:]
        yield rooms[:at] + [room[:1] + room] + rooms[at + 1:]
        yield rooms[:at] + [room[1:]] + rooms[at + 1:]
        for place in range(max(calls) + 1):
            yield rooms[:at] + [sorted([*room, place])] + rooms[at + 1:]
    yield rooms[::-1]
    yield [[], *rooms]


class Keeping(unittest.TestCase):
    def test_all_cases(self):
        seen = set()
        for town, rule, reach in product(TOWNS, RULES, (0, 1, 2, 3, 5, 60)):
            for calls in called(town):
                keeping = [plain_keep(town, many, calls, rule, reach) for many in (1, 2, 3)]
                found = [can_keep(town, many, calls, rule=rule, reach=reach) for many in (1, 2, 3)]
                self.assertEqual(found, keeping, (town, calls, rule, reach))
                self.assertEqual({value.__class__ for value in found}, {bool})
                least = least_helpers(town, calls, rule=rule, reach=reach)
                self.assertEqual(least, plain_least(town, calls, rule, reach))
                seen.add((rule, least))
        self.assertEqual(seen, set(product(RULES, (1, 2, 3, None))))

    def test_all_small_towns(self):
        for town in towns_of(3, [None, 1, 4]):
            for rule, reach, calls in product(RULES, (0, 1, 2, 4, 5), parts_of([0, 1, 2])):
                least = least_helpers(town, calls, rule=rule, reach=reach)
                self.assertEqual(least, plain_least(town, calls, rule, reach))

    def test_towns_by_1_2_3_helpers_and_by_none(self):
        for rule in RULES:
            self.assertEqual(least_helpers((1, []), [0], rule=rule, reach=0), 1)
            self.assertEqual(least_helpers(LINE, [0, 1, 2, 3], rule=rule, reach=3), 1)
            self.assertEqual(least_helpers(LINE, [0, 1, 2, 3], rule=rule, reach=1), 2)
            self.assertEqual(least_helpers((3, []), [0, 1, 2], rule=rule, reach=60), 3)
            self.assertIsNone(least_helpers((4, []), [0, 1, 2, 3], rule=rule, reach=60))
            self.assertIsNone(least_helpers(LINE, [0, 1, 2, 3], rule=rule, reach=0))
            self.assertEqual(least_helpers((4, []), [1, 3], rule=rule, reach=0), 2)

    def test_the_rules_differ(self):
        found = [
            (least_helpers(town, list(range(town[0])), rule="one", reach=reach),
             least_helpers(town, list(range(town[0])), rule="all", reach=reach))
            for town, reach in product([TOWN, ROAD, RING, GREAT], range(12))
        ]
        self.assertIn((3, 2), found)
        self.assertTrue(all(one is None or both <= one for one, both in found))

    def test_what_can_be_kept_can_be_kept_with_more(self):
        for town, rule, reach, many in product([TOWN, LINE, ROAD, RING], RULES, (0, 1, 2, 3), (1, 2, 3)):
            for calls in [*called(town), [0, 1, 3], [1, 2]]:
                if not can_keep(town, many, calls, rule=rule, reach=reach):
                    continue
                self.assertTrue(can_keep(town, many, calls, rule=rule, reach=reach + 1))
                self.assertTrue(can_keep(town, many, calls, rule="all", reach=reach))
                self.assertTrue(can_keep(town, min(3, many + 1), calls, rule=rule, reach=reach))
                self.assertTrue(can_keep(town, many, calls[1:] or calls, rule=rule, reach=reach))
                first, second, length = town[1][0]
                shorter = (town[0], [(first, second, max(1, length - 1)), *town[1][1:]])
                self.assertTrue(can_keep(shorter, many, calls, rule=rule, reach=reach))
        more = with_road(LINE, (0, 3, 1))
        self.assertTrue(can_keep(more, 2, [0, 1, 2, 3], rule="one", reach=1))

    def test_the_greatest_town(self):
        calls = list(range(7))
        for rule, reach in product(RULES, (4, 9, 14)):
            for many in (1, 2, 3):
                expected = plain_keep(GREAT, many, calls, rule, reach)
                self.assertIs(can_keep(GREAT, many, calls, rule=rule, reach=reach), expected)


class Reaches(unittest.TestCase):
    def test_all_cases(self):
        seen = set()
        for town, rule in product([*TOWNS, ROAD, RING, EVEN], RULES):
            for calls in called(town):
                least = [plain_least(town, calls, rule, reach) for reach in range(12)]
                expected = [(0, least[0])]
                for reach in range(1, 12):
                    if (least[reach] or 4) < (least[reach - 1] or 4):
                        expected.append((reach, least[reach]))
                if all(way is None or way < 12 for way in plain_ways(town).values()):
                    self.assertEqual(reach_steps(town, calls, rule=rule), expected, (town, calls, rule))
                    seen.add((len(expected), expected[0][1] is None))
                    for many in (1, 2, 3):
                        reach = next((reach for reach, kept in enumerate(least) if kept and kept <= many), None)
                        self.assertEqual(least_reach(town, many, calls, rule=rule), reach)
        self.assertLessEqual({(1, False), (1, True), (2, False), (2, True), (4, True)}, seen)

    def test_the_steps_of_the_document(self):
        calls = [0, 1, 2, 3]
        self.assertEqual(reach_steps(TOWN, calls, rule="all"), [(0, None), (1, 3), (2, 2), (6, 1)])
        self.assertEqual([least_reach(TOWN, many, calls, rule="all") for many in (1, 2, 3)], [6, 2, 1])
        self.assertEqual(reach_steps((4, []), calls, rule="one"), [(0, None)])
        self.assertEqual(reach_steps((2, [(0, 1, 9)]), [0, 1], rule="one"), [(0, 2), (9, 1)])
        self.assertEqual(reach_steps((2, [(0, 1, 9)]), [1], rule="all"), [(0, 1)])
        self.assertEqual(reach_steps((3, []), [0, 1, 2], rule="one"), [(0, 3)])

    def test_the_least_reach_of_0_between_and_none(self):
        for rule in RULES:
            self.assertEqual(least_reach(TOWN, 1, [2], rule=rule), 0)
            self.assertEqual(least_reach(TOWN, 3, [0, 1, 3], rule=rule), 0)
            self.assertEqual(least_reach(TOWN, 1, [0, 3], rule=rule), 6)
            self.assertIsNone(least_reach((2, []), 1, [0, 1], rule=rule))
            self.assertIsNone(least_reach(TWO_PIECES, 1, [0, 2], rule=rule))
            self.assertEqual(least_reach(TWO_PIECES, 2, [0, 2], rule=rule), 0)
            self.assertEqual(least_reach(LONG_LINE, 1, list(range(7)), rule=rule), 54)

    def test_one_less_is_too_little(self):
        for town, rule, many in product([TOWN, LINE, ROAD, GREAT, LONG_LINE], RULES, (1, 2, 3)):
            calls = list(range(town[0]))
            reach = least_reach(town, many, calls, rule=rule)
            self.assertTrue(can_keep(town, many, calls, rule=rule, reach=reach))
            self.assertFalse(can_keep(town, many, calls, rule=rule, reach=reach - 1))

    def test_the_steps_of_the_greatest_towns(self):
        for town, rule in product([GREAT, LONG_LINE], RULES):
            calls = list(range(7))
            steps = reach_steps(town, calls, rule=rule)
            self.assertEqual([reach for reach, _ in steps], sorted({reach for reach, _ in steps}))
            self.assertEqual(steps[0], (0, None))
            self.assertEqual(steps[1:], [
                (least_reach(town, many, calls, rule=rule), many) for _, many in steps[1:]
            ])
            self.assertEqual(steps[-1][1], 1)


class Far(unittest.TestCase):
    def test_all_lists_of_places(self):
        seen = set()
        for town, rule, reach in product([*TOWNS, ROAD], RULES, range(8)):
            for places in [[], *parts_of(list(range(town[0])))]:
                expected = plain_is_far(town, places, rule, reach)
                self.assertIs(is_far(town, places, rule=rule, reach=reach), expected, (town, places, rule, reach))
                seen.add((rule, expected))
        self.assertEqual(len(seen), 4)

    def test_just_within_and_just_not(self):
        self.assertIs(is_far(TOWN, [0, 2], rule="one", reach=5), False)
        self.assertIs(is_far(TOWN, [0, 2], rule="one", reach=4), True)
        self.assertIs(is_far(TOWN, [0, 3], rule="all", reach=3), False)
        self.assertIs(is_far(TOWN, [0, 3], rule="all", reach=2), True)
        self.assertIs(is_far(TOWN, [0, 2], rule="all", reach=2), True)
        self.assertIs(is_far(TOWN, [0, 2], rule="all", reach=3), False)
        self.assertIs(is_far(TOWN, [0, 1, 3], rule="one", reach=2), False)
        self.assertIs(is_far(TOWN, [1, 2, 3], rule="one", reach=1), False)

    def test_twice_the_reach_goes_up_to_120(self):
        self.assertIs(is_far(LONG_LINE, [0, 6], rule="all", reach=26), True)
        self.assertIs(is_far(LONG_LINE, [0, 6], rule="all", reach=27), False)
        self.assertIs(is_far(LONG_LINE, [0, 6], rule="all", reach=60), False)
        self.assertIs(is_far((2, []), [0, 1], rule="all", reach=60), True)

    def test_farthest(self):
        several = False
        for town, rule, reach in product([*TOWNS, ROAD], RULES, (0, 1, 2, 3, 4, 60)):
            for calls in called(town):
                far = [places for places in parts_of(calls) if plain_is_far(town, places, rule, reach)]
                most = max(map(len, far))
                best = sorted(places for places in far if len(places) == most)
                several = several or len(best) > 1
                self.assertEqual(farthest(town, calls, rule=rule, reach=reach), best[0], (town, calls, rule, reach))
        self.assertTrue(several)

    def test_farthest_of_the_document(self):
        self.assertEqual(farthest(TOWN, [0, 1, 2, 3], rule="one", reach=3), [0, 2])
        self.assertEqual(farthest(TOWN, [0, 1, 2, 3], rule="all", reach=3), [0])
        self.assertEqual(farthest(TOWN, [1, 2, 3], rule="one", reach=3), [1, 3])
        self.assertEqual(farthest(BARE[-1], list(range(7)), rule="all", reach=60), list(range(7)))

    def test_a_far_list_needs_as_many_helpers(self):
        for town, rule, reach in product([*TOWNS, ROAD], RULES, (0, 1, 2, 3)):
            for calls in called(town):
                for places in parts_of(calls):
                    if is_far(town, places, rule=rule, reach=reach):
                        for many in range(1, min(4, len(places))):
                            self.assertFalse(can_keep(town, many, calls, rule=rule, reach=reach))


class Rooms(unittest.TestCase):
    def check(self, town, calls, rooms, reach):
        expected = plain_are_rooms(town, calls, rooms, reach)
        self.assertIs(are_rooms(town, calls, rooms, reach=reach), expected, (town, calls, rooms, reach))
        return expected

    def test_all_rooms_and_such_that_are_nearly_some(self):
        for town, reach in product([TOWN, LINE, TWO_PIECES, ROAD], (0, 1, 2, 3, 6)):
            for calls in called(town):
                right = [rooms for rooms in partitions(calls) if self.check(town, calls, rooms, reach)]
                for rooms in right[:8]:
                    for other in near_rooms(calls, rooms):
                        self.check(town, calls, other, reach)
                fewest = min(map(len, right))
                best = sorted(rooms for rooms in right if len(rooms) == fewest)[0]
                self.assertEqual(fewest_rooms(town, calls, reach=reach), best, (town, calls, reach))

    def test_wrong_ones(self):
        calls = [0, 1, 3]
        self.assertIs(are_rooms(TOWN, calls, [[0, 1], [3]], reach=2), True)
        for wrong in [
            [], [[]], [[0, 1], []], [[], [0, 1], [3]], [[3], [0, 1]], [[1, 0], [3]], [[0, 1]], [[0], [3]], [[0, 0, 1], [3]],
            [[0, 1], [1, 3]], [[0, 1], [3], [3]], [[0, 1], [3, 3]], [[0, 1], [2, 3]], [[0, 1], [2], [3]], [[0, 1, 3]],
            [[0, 3], [1]], [[0, 1], [0, 1], [3]], [[0, 1], [3], []], [[0], [1, 3]],
        ]:
            self.assertIs(are_rooms(TOWN, calls, wrong, reach=2), False, wrong)

    def test_just_within_the_reach_and_farther(self):
        self.assertIs(are_rooms(TOWN, [0, 2], [[0, 2]], reach=5), True)
        self.assertIs(are_rooms(TOWN, [0, 2], [[0, 2]], reach=4), False)
        self.assertIs(are_rooms(TOWN, [0, 1, 3], [[0, 1, 3]], reach=5), False)
        self.assertIs(are_rooms(TOWN, [0, 1, 3], [[0, 1, 3]], reach=6), True)
        self.assertIs(are_rooms((2, []), [0, 1], [[0, 1]], reach=60), False)
        self.assertIs(are_rooms((2, []), [0, 1], [[0], [1]], reach=0), True)

    def test_the_first_ones_of_the_fewest(self):
        self.assertEqual(fewest_rooms(TOWN, [0, 1, 2, 3], reach=3), [[0, 1], [2, 3]])
        self.assertEqual(fewest_rooms(LINE, [0, 1, 2, 3], reach=1), [[0, 1], [2, 3]])
        # Of [[0], [1, 2]] and [[0, 1], [2]] the first one, as [0] comes ahead of [0, 1].
        self.assertEqual(fewest_rooms(LINE, [0, 1, 2], reach=1), [[0], [1, 2]])
        self.assertEqual(fewest_rooms(LINE, [0, 1, 2], reach=2), [[0, 1, 2]])
        self.assertEqual(fewest_rooms((3, []), [0, 2], reach=60), [[0], [2]])
        # The places of a far list are never in one room, and not each list of places can be made greater at first.
        town = (4, [(0, 1, 1), (0, 2, 1), (1, 3, 1)])
        self.assertEqual(fewest_rooms(town, [0, 1, 2, 3], reach=1), [[0, 2], [1, 3]])

    def test_the_greatest_towns(self):
        calls = list(range(7))
        for town, reach in product([GREAT, LONG_LINE, BARE[-1]], (0, 5, 9, 18, 60)):
            right = [rooms for rooms in partitions(calls) if plain_are_rooms(town, calls, rooms, reach)]
            fewest = min(map(len, right))
            best = sorted(rooms for rooms in right if len(rooms) == fewest)[0]
            self.assertEqual(fewest_rooms(town, calls, reach=reach), best)

    def test_rooms_can_be_kept_by_as_many_helpers(self):
        for town, rule, reach in product(TOWNS, RULES, (0, 1, 2, 3)):
            for calls in called(town):
                many = len(fewest_rooms(town, calls, reach=reach))
                if many <= 3:
                    self.assertTrue(can_keep(town, many, calls, rule=rule, reach=reach))


class Pieces(unittest.TestCase):
    def test_without_roads_of_one_piece_and_of_several(self):
        for town in BARE:
            self.assertEqual(pieces(town), [[place] for place in range(town[0])])
        self.assertEqual(pieces(TOWN), [[0, 1, 2, 3]])
        self.assertEqual(pieces(LONG_LINE), [list(range(7))])
        self.assertEqual(pieces(TWO_PIECES), [[0, 1, 3], [2, 4]])
        self.assertEqual(pieces(THREE_PIECES), [[0, 2], [1, 4], [3], [5]])
        self.assertEqual(pieces((7, [(0, 6, 9), (1, 5, 9), (3, 6, 9), (4, 5, 9)])), [[0, 3, 6], [1, 4, 5], [2]])

    def test_all_small_towns(self):
        for town in towns_of(4, [None, 3]):
            between = plain_ways(town)
            expected = sorted({
                tuple(to for to in range(4) if between[place, to] is not None) for place in range(4)
            })
            self.assertEqual(pieces(town), [list(piece) for piece in expected])

    def test_a_town_is_kept_piece_by_piece(self):
        towns = [TWO_PIECES, THREE_PIECES, (5, [(0, 1, 1), (0, 4, 2), (2, 3, 4)]), (6, [(0, 1, 2), (2, 3, 2), (4, 5, 2)])]
        seen = set()
        for town, rule, reach in product(towns, RULES, (0, 1, 2, 3, 6)):
            for calls in [*called(town), *combinations(range(town[0]), 2)]:
                parts = [[place for place in piece if place in calls] for piece in pieces(town)]
                needed = [least_helpers(town, part, rule=rule, reach=reach) for part in parts if part]
                total = None if None in needed or sum(needed) > 3 else sum(needed)
                self.assertEqual(least_helpers(town, list(calls), rule=rule, reach=reach), total)
                seen.add(total)
        self.assertEqual(seen, {1, 2, 3, None})


if __name__ == "__main__":
    unittest.main()
