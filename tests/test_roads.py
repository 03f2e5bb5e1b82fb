"""Points 49 to 52: roads without which stands are lost, roads that are needed, thinned towns, and roads that help."""

import unittest
from itertools import combinations, product

from evernear.roads import helpers_without, helping_roads, lost_stands, needed_roads, thinned
from tests.samples import FULL, LINE, TOWN, TRIANGLE, TWO_PIECES, plain_ranks, plain_stands, spread_town

PATH = (3, [(0, 1, 1), (1, 2, 1)])
RING = (5, [(0, 1, 1), (0, 4, 1), (1, 2, 1), (2, 3, 1), (3, 4, 1)])
SIX = (6, [(0, 2, 2), (1, 4, 3), (2, 3, 1), (2, 5, 2)])
BARE = (4, [])
ALONE = (1, [])
WHOLE = (4, [(0, 1, 3), (0, 2, 1), (0, 3, 2), (1, 2, 2), (1, 3, 1), (2, 3, 3)])
TOWNS = [TOWN, LINE, PATH, RING, TWO_PIECES, TRIANGLE, BARE, ALONE, WHOLE]
SEVEN = spread_town(2, 7, 9)
RULES = ("one", "all")


def plain_safe(town, helpers, calls, told):
    found = plain_ranks(town, helpers, told["rule"], told["reach"], calls)
    return [stand for stand in plain_stands(town, helpers) if found[stand] is None]


def keeps(town, helpers, calls, told):
    return plain_safe(town, helpers, calls, told) != []


def left_out(town, *positions):
    places, roads = town
    return places, [road for at, road in enumerate(roads) if at not in positions]


def cases(towns=TOWNS, helpers=(1, 2, 3), reaches=(0, 1, 3, 60)):
    for town, many, rule, reach in product(towns, helpers, RULES, reaches):
        places = list(range(town[0]))
        for calls in [places, places[:1]] if town[0] < 3 else [places, places[::2], places[-2:]]:
            yield town, many, calls, {"rule": rule, "reach": reach}


class LostStands(unittest.TestCase):
    def test_all_cases(self):
        seen = set()
        for town, helpers, calls, told in cases():
            safe = plain_safe(town, helpers, calls, told)
            for at in range(len(town[1])):
                left = plain_safe(left_out(town, at), helpers, calls, told)
                # Point 49: no stand becomes safe by a road less.
                self.assertLessEqual(set(left), set(safe))
                lost = [stand for stand in safe if stand not in left]
                self.assertEqual(lost_stands(town, at, helpers, calls, **told), lost)
                seen.add((lost != [], left != []))
        self.assertEqual(seen, {(True, True), (True, False), (False, True), (False, False)})

    def test_known_ones(self):
        told = {"rule": "one", "reach": 1}
        self.assertEqual(lost_stands(LINE, 0, 2, [0, 1, 2, 3], **told), [(0, 2), (0, 3), (1, 2), (1, 3)])
        self.assertEqual(lost_stands(LINE, 1, 2, [0, 1, 2, 3], **told), [])
        self.assertEqual(lost_stands(LINE, 0, 2, [2, 3], **told), [])
        self.assertEqual(lost_stands(LINE, 0, 1, [0], **told), [(1,)])
        self.assertEqual(lost_stands(TOWN, 1, 2, [0, 1, 2, 3], rule="one", reach=60), [])

    def test_seven_places(self):
        calls = list(range(7))
        for (town, at), reach in product([(SEVEN, 0), (SEVEN, 8), (FULL, 20)], (2, 9)):
            told = {"rule": "all", "reach": reach}
            left = plain_safe(left_out(town, at), 3, calls, told)
            lost = [stand for stand in plain_safe(town, 3, calls, told) if stand not in left]
            self.assertEqual(lost_stands(town, at, 3, calls, **told), lost)


class NeededRoads(unittest.TestCase):
    def test_all_cases(self):
        seen = set()
        for town, helpers, calls, told in cases():
            kept = keeps(town, helpers, calls, told)
            needed = [
                at for at in range(len(town[1])) if kept and not keeps(left_out(town, at), helpers, calls, told)
            ]
            self.assertEqual(needed_roads(town, helpers, calls, **told), needed)
            seen.add((kept, len(needed) > 1, len(needed) < len(town[1])))
        self.assertLessEqual({(True, True, True), (True, True, False), (True, False, True), (False, False, True)}, seen)

    def test_known_ones(self):
        calls = [0, 1, 2, 3]
        self.assertEqual(needed_roads(TOWN, 2, calls, rule="one", reach=3), [0, 3])
        self.assertEqual(needed_roads(TOWN, 1, calls, rule="one", reach=3), [])
        self.assertEqual(needed_roads(LINE, 1, calls, rule="all", reach=3), [0, 1, 2])
        self.assertEqual(needed_roads(WHOLE, 1, calls, rule="one", reach=60), [])
        self.assertEqual(needed_roads(BARE, 3, [1, 2, 3], rule="one", reach=60), [])
        # 2 helpers keep the line by the two roads at its ends; as far as it goes, by any two or three pieces of it.
        self.assertEqual(needed_roads(LINE, 2, calls, rule="one", reach=1), [0, 2])
        self.assertEqual(needed_roads(LINE, 2, calls, rule="one", reach=60), [])
        self.assertEqual(needed_roads(RING, 3, [0, 1, 2, 3, 4], rule="one", reach=1), [])

    def test_seven_places(self):
        for town, rule in [(SEVEN, "one"), (SEVEN, "all"), (FULL, "one")]:
            told = {"rule": rule, "reach": 9}
            calls = list(range(7))
            needed = [at for at in range(len(town[1])) if not keeps(left_out(town, at), 3, calls, told)]
            self.assertEqual(needed_roads(town, 3, calls, **told), needed)


class HelpersWithout(unittest.TestCase):
    def test_all_cases(self):
        seen = set()
        for town, helpers, calls, told in cases():
            if helpers == 1:
                plain = [
                    min((many for many in (1, 2, 3) if keeps(left_out(town, at), many, calls, told)), default=None)
                    for at in range(len(town[1]))
                ]
                self.assertEqual(helpers_without(town, calls, **told), plain)
                seen.update(plain)
        self.assertEqual(seen, {None, 1, 2, 3})

    def test_known_ones(self):
        self.assertEqual(helpers_without(TOWN, [0, 1, 2, 3], rule="one", reach=3), [3, 2, 2, 3])
        self.assertEqual(helpers_without(LINE, [0, 1, 2, 3], rule="all", reach=0), [None, None, None])
        self.assertEqual(helpers_without(SIX, [0, 1, 2, 3, 4, 5], rule="one", reach=3), [3, None, None, 3])
        self.assertEqual(helpers_without(BARE, [0, 1], rule="one", reach=60), [])
        self.assertEqual(helpers_without(ALONE, [0], rule="all", reach=0), [])


class Thinned(unittest.TestCase):
    def test_all_cases(self):
        shut = set()
        for town, helpers, calls, told in cases():
            found = thinned(town, helpers, calls, **told)
            if not keeps(town, helpers, calls, told):
                self.assertIsNone(found)
                shut.add(None)
                continue
            gone = []
            for at in range(len(town[1])):
                if keeps(left_out(town, *gone, at), helpers, calls, told):
                    gone.append(at)
            self.assertEqual(found, left_out(town, *gone))
            self.assertIs(found.__class__, tuple)
            self.assertIs(found[1].__class__, list)
            # No road that is left can be shut.
            self.assertEqual(needed_roads(found, helpers, calls, **told), list(range(len(found[1]))))
            shut.add(len(gone))
        self.assertLessEqual({None, 0, 1, 2, 3, 4}, shut)

    def test_known_ones(self):
        calls = [0, 1, 2, 3]
        self.assertEqual(thinned(TOWN, 2, calls, rule="one", reach=3), (4, [(0, 1, 2), (2, 3, 1)]))
        self.assertIsNone(thinned(TOWN, 1, calls, rule="one", reach=3))
        self.assertEqual(thinned(LINE, 1, calls, rule="one", reach=3), LINE)
        self.assertEqual(thinned(BARE, 2, [1, 3], rule="one", reach=0), BARE)
        # In their order: the first road of the ring can be left out, and then no further one.
        self.assertEqual(thinned(RING, 1, [0, 1, 2, 3, 4], rule="one", reach=4), (5, RING[1][1:]))
        self.assertEqual(thinned(RING, 3, [0, 2, 4], rule="all", reach=0), (5, []))

    def test_what_is_left_out_counts_for_the_next_road(self):
        # Each road of the triangle alone can be left out, but not two of them.
        self.assertEqual(needed_roads(TRIANGLE, 1, [0, 1, 2], rule="one", reach=60), [])
        self.assertEqual(thinned(TRIANGLE, 1, [0, 1, 2], rule="one", reach=60), (3, [(0, 2, 5), (1, 2, 3)]))

    def test_a_new_town(self):
        town = (4, list(LINE[1]))
        thinned(town, 1, [0, 1, 2, 3], rule="one", reach=3)[1].append("spoilt")
        self.assertEqual(town, LINE)

    def test_seven_places(self):
        for town, rule in [(SEVEN, "all"), (FULL, "one")]:
            told = {"rule": rule, "reach": 9}
            calls = list(range(7))
            gone = []
            for at in range(len(town[1])):
                if keeps(left_out(town, *gone, at), 3, calls, told):
                    gone.append(at)
            self.assertGreater(len(gone), 1)
            self.assertEqual(thinned(town, 3, calls, **told), left_out(town, *gone))


class HelpingRoads(unittest.TestCase):
    def test_all_cases(self):
        seen = set()
        for (town, helpers, calls, told), length in product(cases(), (1, 9)):
            free = [pair for pair in combinations(range(town[0]), 2) if pair not in [road[:2] for road in town[1]]]
            plain = [
                pair for pair in free
                if keeps((town[0], sorted([*town[1], (*pair, length)])), helpers, calls, told)
            ]
            if keeps(town, helpers, calls, told):
                # With a road more it can be kept, too (point 23); but a road does not help then.
                self.assertEqual(plain, free)
                plain = []
            found = helping_roads(town, helpers, calls, length=length, **told)
            self.assertEqual(found, plain)
            seen.add((length, found != [], found == free))
        for length in (1, 9):
            self.assertLessEqual({(length, True, False), (length, False, False), (length, True, True)}, seen)

    def test_known_ones(self):
        calls = [0, 1, 2, 3]
        told = {"rule": "one", "reach": 1}
        self.assertEqual(helping_roads(LINE, 2, calls, length=1, **told), [])
        self.assertEqual(helping_roads((4, [(0, 1, 1)]), 2, calls, length=1, **told), [(2, 3)])
        self.assertEqual(helping_roads((4, [(0, 1, 1)]), 2, calls, length=2, **told), [])
        one_road = (4, [(2, 3, 1)])
        self.assertEqual(helping_roads(one_road, 2, calls, rule="one", reach=9, length=9), [(0, 1)])
        self.assertEqual(
            helping_roads(one_road, 2, calls, rule="one", reach=10, length=9), [(0, 1), (0, 2), (0, 3), (1, 2), (1, 3)],
        )
        self.assertEqual(helping_roads(TOWN, 1, calls, rule="all", reach=5, length=1), [(0, 3), (1, 3)])
        self.assertEqual(helping_roads(WHOLE, 1, calls, rule="one", reach=1, length=1), [])
        self.assertEqual(helping_roads(ALONE, 1, [0], rule="one", reach=0, length=1), [])

    def test_seven_places(self):
        town, calls = (7, [(0, 1, 1), (2, 3, 1), (4, 5, 1)]), list(range(7))
        self.assertEqual(
            helping_roads(town, 3, calls, rule="one", reach=2, length=1),
            [(0, 6), (1, 6), (2, 6), (3, 6), (4, 6), (5, 6)],
        )
        self.assertEqual(helping_roads((7, []), 3, calls, rule="all", reach=60, length=9), [])


if __name__ == "__main__":
    unittest.main()
