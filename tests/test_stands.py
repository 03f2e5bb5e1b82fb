"""Points 5 to 9: stands, moves, answers, and rows that are answered."""

import unittest

from evernear.stands import answers, can_answer, is_answered, move_length, stands_of
from tests.samples import (
    FULL, LINE, SAMPLES, TOWN, TRIANGLE, TWO_PIECES, plain_answers, plain_move, plain_stands, plain_ways,
)

REACHES = [0, 1, 2, 3, 5, 9, 60]


class Stands(unittest.TestCase):
    def test_stands_of(self):
        self.assertEqual(stands_of((3, []), 1), [(0,), (1,), (2,)])
        self.assertEqual(stands_of((3, []), 2), [(0, 0), (0, 1), (0, 2), (1, 1), (1, 2), (2, 2)])
        self.assertEqual(stands_of((2, [(0, 1, 1)]), 3), [(0, 0, 0), (0, 0, 1), (0, 1, 1), (1, 1, 1)])
        self.assertEqual(stands_of((1, []), 3), [(0, 0, 0)])

    def test_all_numbers_of_places_and_helpers(self):
        for places in range(1, 8):
            for helpers, many in [(1, 7), (2, 28), (3, 84)]:
                found = stands_of((places, []), helpers)
                self.assertEqual(found, plain_stands((places, []), helpers))
                if places == 7:
                    self.assertEqual(len(found), many)

    def test_more_helpers_than_the_bound_raise_no_error(self):
        self.assertEqual(stands_of((2, []), 4), plain_stands((2, []), 4))


class Moves(unittest.TestCase):
    def test_the_least_pairing(self):
        self.assertEqual(move_length(TOWN, (0, 2), (1, 3)), 3)
        self.assertEqual(move_length(TOWN, (0, 1, 2), (1, 2, 3)), 6)
        self.assertEqual(move_length(TOWN, (0, 0), (0, 3)), 6)
        self.assertEqual(move_length(TOWN, (0, 0, 3), (0, 0, 3)), 0)

    def test_with_a_reach(self):
        self.assertIsNone(move_length(TOWN, (0, 2), (1, 3), reach=1))
        self.assertEqual(move_length(TOWN, (0, 2), (1, 3), reach=2), 3)

    def test_the_reach_holds_for_each_way_of_the_pairing(self):
        # The sum 2 + 2 is above the reach, but each of the ways is not.
        self.assertEqual(move_length(LINE, (0, 1), (2, 3), reach=2), 4)
        self.assertIsNone(move_length(LINE, (0, 1), (2, 3), reach=1))

    def test_a_lesser_reach_can_make_the_move_longer(self):
        lengths = [move_length(TRIANGLE, (0, 1), (1, 2), reach=reach) for reach in (2, 3, 4, 5)]
        self.assertEqual(lengths, [None, 6, 6, 5])

    def test_no_pairing(self):
        self.assertIsNone(move_length(TWO_PIECES, (0,), (2,)))
        self.assertIsNone(move_length(TWO_PIECES, (0, 1), (0, 2)))
        self.assertEqual(move_length(TWO_PIECES, (0, 2), (3, 4)), 6)
        self.assertEqual(move_length(TWO_PIECES, (0, 2), (1, 4)), 7)

    def test_no_reach_is_none_that_stops(self):
        long_line = (7, [(a, a + 1, 9) for a in range(6)])
        self.assertEqual(move_length(long_line, (0,), (6,)), 54)
        self.assertEqual(move_length(long_line, (0, 0, 0), (6, 6, 6)), 162)

    def test_all_pairs_of_stands(self):
        for town in SAMPLES:
            between = plain_ways(town)
            for helpers in (1, 2, 3):
                for first in plain_stands(town, helpers):
                    for second in plain_stands(town, helpers):
                        self.assertEqual(move_length(town, first, second), plain_move(between, first, second, 60))
                        for reach in (0, 2, 4):
                            expected = plain_move(between, first, second, reach)
                            self.assertEqual(move_length(town, first, second, reach=reach), expected)


class Answers(unittest.TestCase):
    def test_rule_one(self):
        self.assertEqual(answers(TOWN, (0, 2), 1, rule="one", reach=3), [((0, 1), 3), ((1, 2), 2)])
        self.assertEqual(answers(TOWN, (0, 2), 1, rule="one", reach=2), [((1, 2), 2)])
        self.assertEqual(answers(TOWN, (0, 2), 1, rule="one", reach=1), [])

    def test_rule_all(self):
        expected = [((0, 1), 3), ((1, 1), 5), ((1, 2), 2), ((1, 3), 3)]
        self.assertEqual(answers(TOWN, (0, 2), 1, rule="all", reach=3), expected)

    def test_a_lesser_reach_can_make_an_answer_longer(self):
        self.assertEqual(answers(TRIANGLE, (0, 1), 2, rule="all", reach=3), [((0, 2), 3), ((1, 2), 6)])
        self.assertEqual(answers(TRIANGLE, (0, 1), 2, rule="all", reach=5), [
            ((0, 2), 3), ((1, 2), 5), ((2, 2), 8),
        ])

    def test_a_helper_at_the_place_of_the_call(self):
        self.assertEqual(answers(TOWN, (0, 1), 1, rule="one", reach=60), [((0, 1), 0)])
        self.assertEqual(answers(TOWN, (1, 1, 1), 1, rule="one", reach=0), [((1, 1, 1), 0)])
        expected = [((0, 1), 0), ((1, 1), 1), ((1, 2), 2)]
        self.assertEqual(answers(LINE, (0, 1), 1, rule="all", reach=1), expected)
        self.assertEqual(answers(LINE, (0, 1), 1, rule="all", reach=0), [((0, 1), 0)])

    def test_several_helpers_at_one_place(self):
        self.assertEqual(answers(TOWN, (0, 0), 1, rule="one", reach=2), [((0, 1), 2)])
        self.assertEqual(answers(TOWN, (0, 0, 2), 1, rule="one", reach=3), [((0, 0, 1), 3), ((0, 1, 2), 2)])
        self.assertEqual(answers(TOWN, (0, 0), 1, rule="all", reach=2), [((0, 1), 2), ((1, 1), 4)])

    def test_no_answer(self):
        for rule in ("one", "all"):
            self.assertEqual(answers(TWO_PIECES, (0, 3), 4, rule=rule, reach=60), [])
            self.assertEqual(answers(TOWN, (0, 1), 3, rule=rule, reach=3), [])
            self.assertIs(can_answer(TOWN, (0, 1), 3, rule=rule, reach=3), False)
            self.assertIs(can_answer(TOWN, (0, 1), 3, rule=rule, reach=4), True)
            self.assertIs(can_answer(TOWN, (0, 3), 3, rule=rule, reach=0), True)
            self.assertIs(can_answer(TWO_PIECES, (0, 3), 4, rule=rule, reach=60), False)

    def test_the_helper_who_goes_moves_to_its_place_in_the_order(self):
        self.assertEqual(answers(LINE, (1, 2, 3), 0, rule="one", reach=3), [
            ((0, 1, 2), 3), ((0, 1, 3), 2), ((0, 2, 3), 1),
        ])
        self.assertEqual(answers(LINE, (0, 1, 2), 3, rule="one", reach=3), [
            ((0, 1, 3), 1), ((0, 2, 3), 2), ((1, 2, 3), 3),
        ])

    def test_all_stands_and_calls(self):
        for town in SAMPLES:
            between = plain_ways(town)
            for helpers in (1, 2, 3):
                for stand in plain_stands(town, helpers):
                    for call in range(town[0]):
                        self.compare(town, between, stand, call)

    def compare(self, town, between, stand, call):
        for reach in REACHES:
            by_rule = {}
            for rule in ("one", "all"):
                found = answers(town, stand, call, rule=rule, reach=reach)
                expected = plain_answers(town, between, stand, call, rule, reach)
                self.assertEqual(found, expected, (town, stand, call, rule, reach))
                self.assertIs(can_answer(town, stand, call, rule=rule, reach=reach), expected != [])
                by_rule[rule] = dict(found)
            for behind, length in by_rule["one"].items():
                self.assertLessEqual(by_rule["all"][behind], length)

    def test_the_greatest_town(self):
        between = plain_ways((7, [(a, a + 1, 1) for a in range(6)]))
        line = (7, [(a, a + 1, 1) for a in range(6)])
        for stand in [(0, 0, 0), (0, 3, 6), (2, 2, 5)]:
            for rule in ("one", "all"):
                expected = plain_answers(line, between, stand, 4, rule, 2)
                self.assertEqual(answers(line, stand, 4, rule=rule, reach=2), expected)


class Answered(unittest.TestCase):
    ROW = ([(0, 2), (1, 2), (0, 2), (0, 2), (0, 3)], [1, 0, 2, 3])

    def test_rows_that_are_answered(self):
        stands, calls = self.ROW
        for rule in ("one", "all"):
            self.assertIs(is_answered(TOWN, stands, calls, rule=rule, reach=2), True)
        self.assertIs(is_answered(TOWN, stands, calls, rule="one", reach=1), False)
        self.assertIs(is_answered(TOWN, [(0, 2), (1, 3)], [1], rule="all", reach=2), True)
        self.assertIs(is_answered(TOWN, [(0, 2), (1, 3)], [1], rule="one", reach=2), False)

    def test_one_stand_exchanged(self):
        stands, calls = self.ROW
        between = plain_ways(TOWN)
        for rule in ("one", "all"):
            for at in range(len(stands)):
                for other in plain_stands(TOWN, 2):
                    row = stands[:at] + [other] + stands[at + 1:]
                    expected = all(
                        behind in dict(plain_answers(TOWN, between, ahead, call, rule, 2))
                        for ahead, behind, call in zip(row, row[1:], calls)
                    )
                    self.assertIs(is_answered(TOWN, row, calls, rule=rule, reach=2), expected)

    def test_one_call_exchanged(self):
        stands, calls = self.ROW
        for at, call in enumerate(calls):
            for other in range(4):
                row = calls[:at] + [other] + calls[at + 1:]
                expected = other == call or (stands[at] == stands[at + 1] and other in stands[at])
                self.assertIs(is_answered(TOWN, stands, row, rule="one", reach=2), expected)

    def test_too_many_or_too_few(self):
        stands, calls = self.ROW
        for rule in ("one", "all"):
            for many in range(len(stands) + 1):
                for calls_many in range(len(calls) + 1):
                    expected = many == calls_many + 1
                    told = is_answered(TOWN, stands[:many], calls[:calls_many], rule=rule, reach=2)
                    self.assertIs(told, expected)
            self.assertIs(is_answered(TOWN, [*stands, (0, 3)], calls, rule=rule, reach=2), False)
            self.assertIs(is_answered(TOWN, stands, [*calls, 3], rule=rule, reach=2), False)

    def test_rows_without_calls(self):
        for rule in ("one", "all"):
            self.assertIs(is_answered(TOWN, [(1, 1, 3)], [], rule=rule, reach=0), True)
            self.assertIs(is_answered(TOWN, [], [], rule=rule, reach=0), False)
            self.assertIs(is_answered(TOWN, [], [1], rule=rule, reach=0), False)
            self.assertIs(is_answered(TOWN, [(0,), (0,)], [], rule=rule, reach=0), False)

    def test_another_number_of_helpers(self):
        for rule in ("one", "all"):
            self.assertIs(is_answered(TOWN, [(0, 2), (0, 1, 2)], [1], rule=rule, reach=60), False)
            self.assertIs(is_answered(TOWN, [(0, 2), (1,)], [1], rule=rule, reach=60), False)

    def test_long_rows(self):
        stands = [(0, 2), (1, 2)] * 200
        calls = [1, 0] * 199 + [1]
        for rule in ("one", "all"):
            self.assertIs(is_answered(TOWN, stands, calls, rule=rule, reach=2), True)
            self.assertIs(is_answered(TOWN, stands, calls[:-1] + [3], rule=rule, reach=2), False)

    def test_the_greatest_stands(self):
        self.assertIs(is_answered(FULL, [(1, 2, 3), (4, 5, 6)], [5], rule="all", reach=1), True)
        self.assertIs(is_answered(FULL, [(1, 2, 3), (0, 5, 6)], [5], rule="all", reach=8), False)
        self.assertIs(is_answered(FULL, [(1, 2, 3), (0, 5, 6)], [5], rule="all", reach=9), True)


if __name__ == "__main__":
    unittest.main()
