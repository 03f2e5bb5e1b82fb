"""Points 1 to 4: towns, their check, ways, and roads left out or put in."""

import unittest
from itertools import combinations

from evernear.errors import BadRoad, BadSize
from evernear.towns import check_town, is_one_piece, matters, way, ways, with_road, within, without_road
from tests.raising import Raising
from tests.samples import FULL, LINE, NO_WHOLE_NUMBERS, SAMPLES, TOWN, TWO_PIECES, plain_way, plain_ways, towns_of

# Wrong roads of a town of four places, each made of whole numbers.
WRONG_ROADS = [
    (0, 0, 1), (1, 1, 1), (2, 1, 1), (3, 0, 5), (-1, 0, 1), (-1, 2, 1), (-2, -1, 1), (0, 4, 1), (3, 4, 1), (4, 5, 1),
    (0, 7, 1), (0, 1, 0), (0, 1, 10), (0, 1, -1), (2, 3, 60),
]
HUGE = 10 ** 30


def roads_with(value):
    """Wrong roads with a value that is no whole number in each of the three positions."""
    return [(value, 2, 1), (1, value, 1), (1, 2, value), (value, value, value)]


class CheckTown(Raising, unittest.TestCase):
    def test_towns_at_the_bounds_pass(self):
        for places in range(1, 8):
            pairs = list(combinations(range(places), 2))
            for length in range(1, 10):
                self.assertIsNone(check_town((places, [(a, b, length) for a, b in pairs])))
            self.assertIsNone(check_town((places, [])))
            for a, b in pairs:
                self.assertIsNone(check_town((places, [(a, b, 1)])))
        self.assertIsNone(check_town(TWO_PIECES))

    def test_lengths_of_neighbours_do_not_matter_for_the_order(self):
        self.assertIsNone(check_town((3, [(0, 1, 9), (0, 2, 1), (1, 2, 5)])))

    def test_places_that_are_no_whole_number_from_1_to_7(self):
        for places in [0, 8, 9, -1, -7, HUGE, -HUGE, *NO_WHOLE_NUMBERS]:
            self.assert_raises_just(BadSize, {}, check_town, (places, []))

    def test_the_size_comes_ahead_of_the_roads(self):
        for places in [0, 8, True, None, "4"]:
            for road in [(1, 0, 1), (0, 1, 0), (None, 1, 1), (0, 1, 1)]:
                self.assert_raises_just(BadSize, {}, check_town, (places, [road]))

    def test_wrong_roads_alone(self):
        for road in [*WRONG_ROADS, (-HUGE, 1, 1), (0, HUGE, 1), (0, 1, HUGE)]:
            self.assert_raises_just(BadRoad, {"at": 0}, check_town, (4, [road]))

    def test_values_that_are_no_whole_numbers(self):
        for value in NO_WHOLE_NUMBERS:
            for road in roads_with(value):
                self.assert_raises_just(BadRoad, {"at": 0}, check_town, (4, [road]))
                self.assert_raises_just(BadRoad, {"at": 1}, check_town, (4, [(0, 1, 1), road]))
                self.assert_raises_just(BadRoad, {"at": 0}, check_town, (4, [road, (2, 3, 1)]))

    def test_a_place_beyond_the_town(self):
        for places in range(1, 7):
            self.assert_raises_just(BadRoad, {"at": 0}, check_town, (places, [(places - 1, places, 1)]))

    def test_out_of_order(self):
        self.assert_raises_just(BadRoad, {"at": 1}, check_town, (4, [(0, 2, 1), (0, 1, 1)]))
        self.assert_raises_just(BadRoad, {"at": 1}, check_town, (4, [(1, 2, 1), (0, 3, 9)]))
        self.assert_raises_just(BadRoad, {"at": 2}, check_town, (4, [(0, 1, 1), (1, 2, 1), (0, 3, 1), (2, 3, 1)]))
        self.assert_raises_just(BadRoad, {"at": 3}, check_town, (4, [(0, 1, 1), (0, 2, 1), (2, 3, 1), (1, 2, 1)]))

    def test_between_the_same_places(self):
        for first, second in [(1, 2), (2, 1), (3, 3), (1, 9)]:
            self.assert_raises_just(BadRoad, {"at": 1}, check_town, (4, [(0, 1, first), (0, 1, second)]))
            roads = [(0, 1, 1), (0, 2, first), (0, 2, second), (0, 3, 1)]
            self.assert_raises_just(BadRoad, {"at": 2}, check_town, (4, roads))

    def test_the_first_wrong_road_of_several(self):
        for at in range(len(TOWN[1])):
            for road in [(2, 1, 1), (0, 4, 1), (0, 1, 0), (None, 1, 1), (0, 1, True)]:
                roads = TOWN[1][:at] + [road] + TOWN[1][at + 1:-1] + [(1, 0, 0)]
                self.assert_raises_just(BadRoad, {"at": at}, check_town, (4, roads))


class Ways(unittest.TestCase):
    def test_over_several_roads(self):
        self.assertEqual(way(TOWN, 0, 3), 6)
        self.assertEqual(way(TOWN, 0, 2), 5)
        self.assertEqual(ways(TOWN), [[0, 2, 5, 6], [2, 0, 3, 4], [5, 3, 0, 1], [6, 4, 1, 0]])

    def test_none_where_no_roads_lead(self):
        self.assertEqual(ways((2, [])), [[0, None], [None, 0]])
        self.assertIsNone(way(TWO_PIECES, 0, 2))
        self.assertEqual(way(TWO_PIECES, 1, 3), 3)
        self.assertEqual(ways((1, [])), [[0]])

    def test_the_longest_way(self):
        long_line = (7, [(place, place + 1, 9) for place in range(6)])
        self.assertEqual(way(long_line, 0, 6), 54)
        self.assertEqual(way(long_line, 6, 0), 54)

    def test_a_way_that_goes_to_and_fro_over_the_names(self):
        town = (7, [(0, 6, 1), (1, 4, 1), (1, 5, 1), (2, 3, 1), (2, 5, 1), (3, 6, 1)])
        self.assertEqual(way(town, 0, 4), 6)

    def test_all_small_towns(self):
        for town in towns_of(4, [None, 1, 4]):
            between = plain_ways(town)
            table = ways(town)
            self.assertEqual({(a, b): table[a][b] for a in range(4) for b in range(4)}, between, town)
            self.assertEqual(len(table), 4)
            self.assertEqual([len(row) for row in table], [4] * 4)
            self.assertEqual(is_one_piece(town), None not in between.values(), town)
            for a, b in between:
                self.assertEqual(way(town, a, b), between[a, b])
                self.assertEqual(way(town, b, a), between[a, b])

    def test_one_piece(self):
        for town in [TOWN, LINE, FULL, (1, [])]:
            self.assertIs(is_one_piece(town), True)
        for town in [TWO_PIECES, (2, []), (7, []), (3, [(0, 1, 1)]), (3, [(1, 2, 1)]), (4, [(0, 1, 1), (2, 3, 1)])]:
            self.assertIs(is_one_piece(town), False)


class Within(unittest.TestCase):
    def test_just_at_the_way(self):
        self.assertEqual(within(TOWN, 0, reach=5), [0, 1, 2])
        self.assertEqual(within(TOWN, 0, reach=4), [0, 1])
        self.assertEqual(within(TOWN, 0, reach=6), [0, 1, 2, 3])
        self.assertEqual(within(TOWN, 3, reach=1), [2, 3])

    def test_reach_0_and_60(self):
        for town in SAMPLES:
            for place in range(town[0]):
                self.assertEqual(within(town, place, reach=0), [place])
                there = [other for other in range(town[0]) if plain_way(town, place, other) is not None]
                self.assertEqual(within(town, place, reach=60), there)
        self.assertEqual(within((7, [(a, a + 1, 9) for a in range(6)]), 0, reach=60), list(range(7)))

    def test_beyond_the_bounds_of_a_reach(self):
        self.assertEqual(within(TWO_PIECES, 4, reach=120), [2, 4])

    def test_each_reach(self):
        for town in SAMPLES:
            between = plain_ways(town)
            for place in range(town[0]):
                for reach in range(20):
                    near = [to for to in range(town[0]) if (between[place, to] or 0) <= reach
                            and between[place, to] is not None]
                    self.assertEqual(within(town, place, reach=reach), near)


class Roads(Raising, unittest.TestCase):
    def test_matters(self):
        self.assertIs(matters(TOWN, 0), True)
        self.assertIs(matters(TOWN, 1), False)
        self.assertIs(matters(TOWN, 2), True)

    def test_a_road_without_which_there_is_no_way(self):
        self.assertIs(matters((2, [(0, 1, 9)]), 0), True)
        self.assertIs(matters(TOWN, 3), True)

    def test_a_way_over_other_places_is_as_long_or_one_longer_or_shorter(self):
        for length, expected in [(1, True), (4, True), (5, False), (6, False), (9, False)]:
            town = (3, [(0, 1, 2), (0, 2, length), (1, 2, 3)])
            self.assertIs(matters(town, 1), expected, length)

    def test_all_small_towns(self):
        for town in towns_of(4, [None, 1, 2, 5]):
            for at, (a, b, length) in enumerate(town[1]):
                left = (4, [road for road in town[1] if road != (a, b, length)])
                self.assertEqual(without_road(town, at), left)
                rest = plain_way(left, a, b)
                self.assertIs(matters(town, at), rest is None or rest > plain_way(town, a, b), (town, at))

    def test_without_road(self):
        self.assertEqual(without_road(TOWN, 0), (4, [(0, 2, 9), (1, 2, 3), (2, 3, 1)]))
        self.assertEqual(without_road(TOWN, 1), (4, [(0, 1, 2), (1, 2, 3), (2, 3, 1)]))
        self.assertEqual(without_road(TOWN, 3), (4, [(0, 1, 2), (0, 2, 9), (1, 2, 3)]))
        self.assertEqual(without_road((2, [(0, 1, 9)]), 0), (2, []))

    def test_with_road_in_each_position(self):
        for town in [*SAMPLES, FULL]:
            for at in range(len(town[1])):
                self.assertEqual(with_road(without_road(town, at), town[1][at]), town)
        self.assertEqual(with_road((2, []), (0, 1, 1)), (2, [(0, 1, 1)]))
        self.assertEqual(with_road(LINE, (0, 2, 9)), (4, [(0, 1, 1), (0, 2, 9), (1, 2, 1), (2, 3, 1)]))
        self.assertEqual(with_road((4, [(0, 1, 1), (1, 2, 1)]), (2, 3, 9)), (4, [(0, 1, 1), (1, 2, 1), (2, 3, 9)]))
        self.assertEqual(with_road((4, [(1, 2, 1), (2, 3, 1)]), (0, 1, 9)), (4, [(0, 1, 9), (1, 2, 1), (2, 3, 1)]))

    def test_with_road_between_places_that_have_one(self):
        for at, (a, b, length) in enumerate(TOWN[1]):
            for told in [1, length, 9, 0, 10]:
                self.assert_raises_just(BadRoad, {"at": at}, with_road, TOWN, (a, b, told))

    def test_with_road_that_is_no_road_of_the_town(self):
        for road, at in [
            ((-1, 2, 1), 0), ((-5, -4, 1), 0), ((0, 0, 1), 0), ((0, 3, 0), 2), ((0, 3, 10), 2), ((0, 4, 1), 2),
            ((1, 0, 1), 2), ((1, 1, 1), 2), ((1, 3, -1), 3), ((1, 3, HUGE), 3), ((2, 1, 1), 3), ((2, 2, 1), 3),
            ((3, 0, 1), 4), ((3, 4, 1), 4), ((9, 1, 1), 4), ((-HUGE, 1, 1), 0), ((HUGE, 1, 1), 4),
        ]:
            self.assert_raises_just(BadRoad, {"at": at}, with_road, TOWN, road)
        for places in range(1, 7):
            self.assert_raises_just(BadRoad, {"at": 0}, with_road, (places, []), (0, places, 1))

    def test_with_road_of_values_that_are_no_whole_numbers(self):
        for value in NO_WHOLE_NUMBERS:
            for road in [*roads_with(value), (0, 1, value), (-1, 0, value), (value, 0, 0), (-1, value, 1)]:
                self.assert_raises_just(BadRoad, {"at": 4}, with_road, TOWN, road)
                self.assert_raises_just(BadRoad, {"at": 0}, with_road, (3, []), road)

    def test_every_road_of_small_numbers(self):
        for a in range(-1, 6):
            for b in range(-1, 6):
                for length in range(-1, 12):
                    there = [road[:2] for road in TOWN[1]]
                    at = len([pair for pair in there if pair < (a, b)])
                    if 0 <= a < b <= 3 and 1 <= length <= 9 and (a, b) not in there:
                        self.assertEqual(with_road(TOWN, (a, b, length)), (4, sorted([*TOWN[1], (a, b, length)])))
                    else:
                        self.assert_raises_just(BadRoad, {"at": at}, with_road, TOWN, (a, b, length))


if __name__ == "__main__":
    unittest.main()
