"""Points 10 to 14: texts of towns and of calls, and the diary."""

import re
import unittest

from evernear.errors import BadCall, BadRoad, BadSize, BadText, NearError
from evernear.stands import answers, is_answered
from evernear.texts import diary, read_calls, read_town, write_calls, write_town
from tests.raising import Raising
from tests.samples import FULL, LINE, SAMPLES, TOWN, TRIANGLE, TWO_PIECES, towns_of

TEXT = "places 4\nroad 0 1 2\nroad 0 2 9\nroad 1 2 3\nroad 2 3 1\n"
NO_NUMBERS = [
    "", "00", "01", "007", "010", "1000", "1234", "0000", "-1", "+1", "1.0", "x", "1x", "x1", "1_0", "0x1", "\t1", "1\t",
    "1\r", "\u0661", "\u00b2", "\uff11", "1\u00a0", "True", "None", "road", "1,", "\x0b", "\u2028",
]


def words_of(line):
    """The words of a line with their columns: one begins at the beginning and behind each blank."""
    starts = [0] + [at + 1 for at, sign in enumerate(line) if sign == " "]
    return [(re.match("[^ ]*", line[start:]).group(), start + 1) for start in starts]


def plain_wrong(text, head, head_many, later, later_many):
    """Where a text has its first wrong word, or None; many is None for any number of numbers."""
    lines = text.split("\n")
    ended = [True] * (len(lines) - 1) + [False]
    for number, line in enumerate(lines, start=1):
        if line == "" and not ended[number - 1]:
            # Behind the last newline: no line, unless there is none at all.
            return None if number > 1 else (1, 1)
        word, many = (head, head_many) if number == 1 else (later, later_many)
        for at, (told, column) in enumerate(words_of(line)):
            good = told == word if at == 0 else bool(re.fullmatch("0|[1-9][0-9]{0,2}", told))
            if not good or (many is not None and at > many):
                return (number, column)
        short = many is not None and len(words_of(line)) < many + 1
        if short or not ended[number - 1]:
            return (number, len(line) + 1)
    return None


def edited(text):
    """Every text that comes by one sign put in, left out or exchanged."""
    for at in range(len(text) + 1):
        for sign in " 0157pr\nx\t":
            yield text[:at] + sign + text[at:]
            yield text[:at] + sign + text[at + 1:]
        yield text[:at] + text[at + 1:]
        yield text[:at]


class BadTexts(Raising):
    def assert_bad_text(self, line, column, act, *args):
        self.assert_raises_just(BadText, {"line": line, "column": column}, act, *args)


class Towns(BadTexts, unittest.TestCase):
    def test_written(self):
        self.assertEqual(write_town(TOWN), TEXT)
        self.assertEqual(write_town((1, [])), "places 1\n")
        self.assertEqual(write_town((7, [(5, 6, 9)])), "places 7\nroad 5 6 9\n")

    def test_read(self):
        self.assertEqual(read_town(TEXT), TOWN)
        self.assertEqual(read_town("places 7\n"), (7, []))
        town = read_town("places 2\nroad 0 1 9\n")
        self.assertEqual(town, (2, [(0, 1, 9)]))
        self.assertEqual([value.__class__ for value in (town, town[0], town[1], town[1][0])], [tuple, int, list, tuple])

    def test_written_and_read_back(self):
        for town in [*SAMPLES, FULL, (7, []), *towns_of(3, [None, *range(1, 10)]), *towns_of(4, [None, 1, 9])]:
            self.assertEqual(read_town(write_town(town)), town)
            self.assertEqual(write_town(read_town(write_town(town))), write_town(town))

    def test_the_text_without_any_sign(self):
        self.assert_bad_text(1, 1, read_town, "")

    def test_empty_lines(self):
        self.assert_bad_text(1, 1, read_town, "\n")
        self.assert_bad_text(1, 1, read_town, "\nplaces 4\n")
        self.assert_bad_text(2, 1, read_town, "places 4\n\n")
        self.assert_bad_text(2, 1, read_town, "places 4\n\nroad 0 1 2\n")
        self.assert_bad_text(3, 1, read_town, "places 4\nroad 0 1 2\n\n")

    def test_first_words(self):
        for word in ["place", "places:", "Places", "PLACES", "road", "", "4", "calls", "placess", "places\t4"]:
            self.assert_bad_text(1, 1, read_town, word + " 4\n")
        for word in ["places", "roads", "Road", "", "0", "roa", "way", "road\t0"]:
            self.assert_bad_text(2, 1, read_town, "places 4\n" + word + " 0 1 2\n")
            self.assert_bad_text(3, 1, read_town, "places 4\nroad 0 1 2\n" + word + " 0 2 2\n")

    def test_words_that_are_no_numbers(self):
        for word in NO_NUMBERS:
            self.assert_bad_text(1, 8, read_town, f"places {word}\n")
            self.assert_bad_text(2, 6, read_town, f"places 4\nroad {word} 1 2\n")
            self.assert_bad_text(2, 8, read_town, f"places 4\nroad 0 {word} 2\n")
            self.assert_bad_text(2, 10, read_town, f"places 4\nroad 0 1 {word}\n")
            self.assert_bad_text(3, 12, read_town, f"places 4\nroad 0 1 2\nroad 999 1 {word}\n")

    def test_numbers_of_one_to_three_digits(self):
        for number in [0, 8, 10, 99, 100, 999]:
            self.assert_raises_just(BadSize, {}, read_town, f"places {number}\n")
            self.assert_raises_just(BadRoad, {"at": 0}, read_town, f"places 4\nroad {number} {number} {number}\n")

    def test_words_too_many(self):
        self.assert_bad_text(1, 10, read_town, "places 4 5\n")
        self.assert_bad_text(1, 10, read_town, "places 4 x y\n")
        self.assert_bad_text(2, 12, read_town, "places 4\nroad 0 1 2 3\n")
        self.assert_bad_text(2, 12, read_town, "places 4\nroad 0 1 2 3 4\n")
        self.assert_bad_text(2, 12, read_town, "places 4\nroad 0 1 2 road 0 2 1\n")

    def test_words_missing(self):
        self.assert_bad_text(1, 7, read_town, "places\n")
        self.assert_bad_text(2, 5, read_town, "places 4\nroad\n")
        self.assert_bad_text(2, 7, read_town, "places 4\nroad 0\n")
        self.assert_bad_text(2, 9, read_town, "places 4\nroad 0 1\n")
        self.assert_bad_text(2, 11, read_town, "places 4\nroad 0 999\nroad 1 2 x\n")

    def test_empty_words(self):
        self.assert_bad_text(2, 6, read_town, "places 4\nroad  1 2\n")
        self.assert_bad_text(1, 8, read_town, "places  4\n")
        self.assert_bad_text(1, 1, read_town, " places 4\n")
        self.assert_bad_text(1, 10, read_town, "places 4 \n")
        self.assert_bad_text(1, 8, read_town, "places \n")
        self.assert_bad_text(1, 1, read_town, " \n")
        self.assert_bad_text(2, 8, read_town, "places 4\nroad 0  1 2\n")
        self.assert_bad_text(2, 10, read_town, "places 4\nroad 0 1  2\n")
        self.assert_bad_text(2, 12, read_town, "places 4\nroad 0 1 2 \n")
        self.assert_bad_text(2, 10, read_town, "places 4\nroad 0 1 \n")
        self.assert_bad_text(2, 1, read_town, "places 4\n road 0 1 2\n")

    def test_no_newline_at_the_end(self):
        self.assert_bad_text(1, 9, read_town, "places 4")
        self.assert_bad_text(5, 11, read_town, TEXT[:-1])
        self.assert_bad_text(1, 7, read_town, "places")
        self.assert_bad_text(2, 9, read_town, "places 4\nroad 0 1")
        self.assert_bad_text(2, 6, read_town, "places 4\nroad x 1 2")
        self.assert_bad_text(2, 12, read_town, "places 4\nroad 0 1 2 ")
        self.assert_bad_text(2, 1, read_town, "places 4\nx")
        self.assert_bad_text(1, 8, read_town, "places x\nroad 0 1 2")

    def test_other_ends_of_lines_are_signs_of_words(self):
        self.assert_bad_text(1, 8, read_town, "places 4\r\n")
        self.assert_bad_text(1, 8, read_town, "places 4\rroad 0 1 2\n")
        self.assert_bad_text(2, 10, read_town, "places 4\nroad 0 1 2\x0b\n")

    def test_the_first_wrong_word_of_several(self):
        self.assert_bad_text(1, 8, read_town, "places x y\nrod\n")
        self.assert_bad_text(2, 6, read_town, "places 4\nroad x y z w\n")
        self.assert_bad_text(2, 8, read_town, "places 4\nroad 0 y 2\nrod 0 1 2")
        self.assert_bad_text(2, 9, read_town, "places 4\nroad 0 1\nrod 0 1 2\n")

    def test_the_form_comes_ahead_of_the_check(self):
        self.assert_bad_text(2, 1, read_town, "places 0\nrod\n")
        self.assert_bad_text(3, 10, read_town, "places 9\nroad 5 4 0\nroad 0 1 x\n")
        self.assert_bad_text(3, 11, read_town, "places 4\nroad 1 0 2\nroad 0 1 2")
        self.assert_bad_text(1, 9, read_town, "places 0")
        self.assert_bad_text(4, 1, read_town, "places 4\nroad 1 0 2\nroad 0 1 2\n\n")

    def test_what_the_check_raises(self):
        self.assert_raises_just(BadSize, {}, read_town, "places 0\n")
        self.assert_raises_just(BadSize, {}, read_town, "places 8\nroad 1 0 2\n")
        self.assert_raises_just(BadRoad, {"at": 0}, read_town, "places 4\nroad 1 0 2\n")
        self.assert_raises_just(BadRoad, {"at": 1}, read_town, "places 4\nroad 0 1 2\nroad 0 1 2\n")
        self.assert_raises_just(BadRoad, {"at": 2}, read_town, "places 4\nroad 0 1 2\nroad 0 3 9\nroad 0 2 9\n")
        self.assert_raises_just(BadRoad, {"at": 0}, read_town, "places 4\nroad 0 1 10\n")

    def test_every_edit(self):
        for text in [TEXT, "places 1\n", "places 7\nroad 0 6 9\n"]:
            for other in edited(text):
                wrong = plain_wrong(other, "places", 1, "road", 3)
                if wrong is not None:
                    self.assert_bad_text(*wrong, read_town, other)
                    continue
                try:
                    town = read_town(other)
                except NearError as error:
                    self.assertIn(error.__class__, (BadSize, BadRoad), repr(other))
                else:
                    self.assertEqual(write_town(town), other)


class Calls(BadTexts, unittest.TestCase):
    def test_written(self):
        self.assertEqual(write_calls([]), "calls\n")
        self.assertEqual(write_calls([1, 0]), "calls 1 0\n")
        self.assertEqual(write_calls([0, 10, 999, 0]), "calls 0 10 999 0\n")

    def test_read(self):
        self.assertEqual(read_calls(TOWN, "calls 1 0\n"), [1, 0])
        self.assertEqual(read_calls(TOWN, "calls\n"), [])
        self.assertEqual(read_calls((1, []), "calls 0 0 0\n"), [0, 0, 0])

    def test_written_and_read_back(self):
        for calls in [[], [0], [3, 3, 3], [6, 5, 4, 3, 2, 1, 0], list(range(7)) * 30]:
            self.assertEqual(read_calls(FULL, write_calls(calls)), calls)

    def test_the_form(self):
        for text, line, column in [
            ("", 1, 1), ("\n", 1, 1), ("call 1\n", 1, 1), (" calls 1\n", 1, 1), ("Calls\n", 1, 1), ("callss 1\n", 1, 1),
            ("places 1\n", 1, 1), ("calls \n", 1, 7), ("calls  1\n", 1, 7), ("calls 1 \n", 1, 9), ("calls 1  0\n", 1, 9),
            ("calls 0 1 00\n", 1, 11), ("calls 0 1", 1, 10), ("calls", 1, 6), ("calls ", 1, 7), ("calls 1 x", 1, 9),
            ("call", 1, 1), ("calls 1\r\n", 1, 7),
        ]:
            self.assert_bad_text(line, column, read_calls, TOWN, text)
        for word in NO_NUMBERS:
            self.assert_bad_text(1, 7, read_calls, TOWN, f"calls {word} 1\n")
            self.assert_bad_text(1, 11, read_calls, TOWN, f"calls 100 {word}\n")

    def test_a_second_line(self):
        for second in ["\n", "calls 1\n", "x", "x\n", " ", "1\n", "\n\n"]:
            self.assert_bad_text(2, 1, read_calls, TOWN, "calls 1\n" + second)
            self.assert_bad_text(2, 1, read_calls, TOWN, "calls\n" + second)
            self.assert_bad_text(1, 7, read_calls, TOWN, "calls x\n" + second)

    def test_no_place_of_the_town(self):
        self.assert_raises_just(BadCall, {"at": 0}, read_calls, TOWN, "calls 4\n")
        self.assert_raises_just(BadCall, {"at": 2}, read_calls, TOWN, "calls 3 0 4 1 999\n")
        self.assert_raises_just(BadCall, {"at": 1}, read_calls, (1, []), "calls 0 1\n")
        self.assert_raises_just(BadCall, {"at": 3}, read_calls, FULL, "calls 6 6 6 7\n")

    def test_the_form_comes_ahead_of_the_places(self):
        self.assert_bad_text(1, 9, read_calls, TOWN, "calls 9 x\n")
        self.assert_bad_text(1, 8, read_calls, TOWN, "calls 9")
        self.assert_bad_text(2, 1, read_calls, TOWN, "calls 9\n\n")

    def test_every_edit(self):
        for text in ["calls\n", "calls 1 0\n", "calls 3 10 100\n"]:
            for other in edited(text):
                wrong = plain_wrong(other, "calls", None, None, 0)
                if wrong is not None:
                    self.assert_bad_text(*wrong, read_calls, TOWN, other)
                    continue
                numbers = [int(word) for word in other.split()[1:]]
                far = [at for at, number in enumerate(numbers) if number > 3]
                if far:
                    self.assert_raises_just(BadCall, {"at": far[0]}, read_calls, TOWN, other)
                else:
                    self.assertEqual(read_calls(TOWN, other), numbers)
                    self.assertEqual(write_calls(numbers), other)


class Diary(unittest.TestCase):
    def test_rule_one(self):
        text = diary(TOWN, [(0, 2), (1, 2), (0, 2)], [1, 0], rule="one", reach=3)
        self.assertEqual(text, "call 1 from 0 2 to 1 2 way 2\ncall 0 from 1 2 to 0 2 way 2\nway 4\n")

    def test_rule_all(self):
        text = diary(TOWN, [(0, 2), (1, 3), (1, 3), (0, 2)], [1, 3, 0], rule="all", reach=3)
        self.assertEqual(text, (
            "call 1 from 0 2 to 1 3 way 3\n"
            "call 3 from 1 3 to 1 3 way 0\n"
            "call 0 from 1 3 to 0 2 way 3\n"
            "way 6\n"
        ))

    def test_the_length_of_an_answer_depends_on_the_reach(self):
        for reach, length in [(3, 6), (4, 6), (5, 5), (60, 5)]:
            text = diary(TRIANGLE, [(0, 1), (1, 2)], [2], rule="all", reach=reach)
            self.assertEqual(text, f"call 2 from 0 1 to 1 2 way {length}\nway {length}\n")

    def test_a_row_without_calls(self):
        for rule in ("one", "all"):
            self.assertEqual(diary(TOWN, [(0, 1, 1)], [], rule=rule, reach=0), "way 0\n")

    def test_one_and_three_helpers_and_a_sum_of_several_digits(self):
        town = (7, [(a, a + 1, 9) for a in range(6)])
        for rule in ("one", "all"):
            text = diary(town, [(0,), (6,), (0,)], [6, 0], rule=rule, reach=60)
            self.assertEqual(text, "call 6 from 0 to 6 way 54\ncall 0 from 6 to 0 way 54\nway 108\n")
            text = diary(TOWN, [(0, 0, 2), (0, 0, 3)], [3], rule=rule, reach=60)
            self.assertEqual(text, "call 3 from 0 0 2 to 0 0 3 way 1\nway 1\n")

    def test_every_answer(self):
        for town in [TOWN, TWO_PIECES, LINE]:
            for stand in [(0, 2), (1, 1), (0, 1, 3)]:
                for rule in ("one", "all"):
                    for call in range(town[0]):
                        for behind, length in answers(town, stand, call, rule=rule, reach=4):
                            self.assertTrue(is_answered(town, [stand, behind], [call], rule=rule, reach=4))
                            text = diary(town, [stand, behind], [call], rule=rule, reach=4)
                            ahead = " ".join(map(str, stand))
                            there = " ".join(map(str, behind))
                            self.assertEqual(text, f"call {call} from {ahead} to {there} way {length}\nway {length}\n")


if __name__ == "__main__":
    unittest.main()
