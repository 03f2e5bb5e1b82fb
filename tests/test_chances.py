"""Points 38 to 43: chances, the greatest chance that all calls are answered, least mean totals, papers, least means."""

import unittest
from fractions import Fraction
from itertools import product
from math import gcd
from random import Random

from evernear.chances import (
    answered_chance, chance_table, check_chances, is_above, is_below, least_mean, mean_paper, mean_total, side_of,
)
from evernear.errors import BadNumber, BadSize
from evernear.safe import ranks
from tests.raising import Raising
from tests.samples import (
    FULL, LINE, NO_WHOLE_NUMBERS, TOWN, TRIANGLE, TWO_PIECES, plain_replies, plain_stands, plain_ways, spread_town,
)

PATH = (3, [(0, 1, 1), (1, 2, 1)])
PAIR = (2, [(0, 1, 9)])
ALONE = (1, [])
SEVEN = spread_town(5, 7, 10)
RING = (4, [(0, 1, 2), (0, 3, 3), (1, 2, 5), (2, 3, 2)])
# By rule "one" and the reach 2 some stands of 3 helpers have the rank 4.
LONG_LOST = (6, [(0, 1, 2), (0, 2, 1), (0, 4, 3), (0, 5, 1), (1, 2, 2), (2, 3, 2), (2, 4, 1)])
EVEN = [(1, 4), (1, 4), (1, 4), (1, 4)]
UNEVEN = [(1, 2), (1, 3), (1, 10), (1, 15)]
SOME = [(1, 3), (0, 1), (0, 1), (2, 3)]
THREE = [(1, 4), (1, 4), (0, 1), (1, 2)]
SURE = [(0, 1), (0, 1), (1, 1), (0, 1)]
OF_FOUR = [EVEN, UNEVEN, SOME, THREE, SURE]
OF_FIVE = [(1, 5), (2, 5), (1, 5), (1, 10), (1, 10)]
OF_SEVEN = [(1, 7), (1, 7), (1, 7), (1, 7), (1, 7), (1, 7), (1, 7)]
# 7 + 11 + 12 + 13 + 19 + 18 + 20 of 100, in lowest terms.
HUNDREDTHS = [(7, 100), (11, 100), (3, 25), (13, 100), (19, 100), (9, 50), (1, 5)]
RULES = ("one", "all")


def told(fraction):
    return (fraction.numerator, fraction.denominator)


def spread_chances(seed, places):
    """Chances that look like any other ones, some of them 0; the same ones for the same numbers."""
    rng = Random(seed)
    whole = rng.choice([1, 2, 3, 5, 12, 60, 97, 100])
    cuts = [0, *sorted(rng.randint(0, whole) for _ in range(places - 1)), whole]
    return [told(Fraction(behind - ahead, whole)) for ahead, behind in zip(cuts, cuts[1:])]


def plain_chances(town, helpers, chances, rule, reach, many):
    replies = plain_replies(town, helpers, rule, reach)
    found = {stand: Fraction(1) for stand in plain_stands(town, helpers)}
    for _ in range(many):
        found = {
            stand: sum(
                Fraction(*chance) * max((found[answer] for answer, _ in replies[stand, call]), default=0)
                for call, chance in enumerate(chances)
            )
            for stand in found
        }
    return found


def plain_side(town, stand, chances, leads):
    replies = plain_replies(town, len(stand), "one", 60)
    return sum(
        Fraction(*chance) * min(length + leads[answer] for answer, length in replies[stand, call])
        for call, chance in enumerate(chances)
    )


def plain_totals(town, helpers, chances, many):
    found = {stand: Fraction(0) for stand in plain_stands(town, helpers)}
    for _ in range(many):
        found = {stand: plain_side(town, stand, chances, found) for stand in found}
    return found


def totals_by_nearest(town, chances, many):
    """The mean totals of 2 helpers if each call is answered by the first one of the shortest answers."""
    replies = plain_replies(town, 2, "one", 60)
    near = {key: min(found, key=lambda reply: (reply[1], reply[0])) for key, found in replies.items()}
    totals = {stand: Fraction(0) for stand in plain_stands(town, 2)}
    for _ in range(many):
        totals = {
            stand: sum(
                Fraction(*chance) * (near[stand, call][1] + totals[near[stand, call][0]])
                for call, chance in enumerate(chances)
            )
            for stand in totals
        }
    return totals


def is_plainly_above(town, helpers, chances, number, leads):
    return all(plain_side(town, stand, chances, leads) <= leads[stand] + number for stand in leads)


def is_plainly_below(town, helpers, chances, number, leads):
    return all(plain_side(town, stand, chances, leads) >= leads[stand] + number for stand in leads)


def by_whole(rows):
    return {stand: Fraction(*lead) for stand, lead in rows}


def mean_of_one(town, chances):
    """The mean of the way from a call to the next one: one helper always is where the last call came from."""
    between = plain_ways(town)
    return sum(
        Fraction(*first) * Fraction(*second) * between[a, b]
        for (a, first), (b, second) in product(enumerate(chances), repeat=2) if first[0] and second[0]
    )


def small_cases():
    for town in [TOWN, LINE, RING]:
        for chances in OF_FOUR:
            yield town, chances
    for chances in [[(1, 4), (1, 2), (1, 4)], [(99, 100), (0, 1), (1, 100)], [(1, 3), (1, 3), (1, 3)]]:
        yield PATH, chances
        yield TRIANGLE, chances
    yield PAIR, [(1, 100), (99, 100)]
    yield PAIR, [(0, 1), (1, 1)]
    yield ALONE, [(1, 1)]


def great_cases():
    yield SEVEN, OF_SEVEN
    yield FULL, HUNDREDTHS
    for seed in range(12):
        places = 5 + seed % 3
        yield spread_town(seed, places, places + seed % 5), spread_chances(seed, places)


class Forms(unittest.TestCase):
    def check_form(self, number):
        self.assertIs(number.__class__, tuple)
        over, under = number
        self.assertIs(over.__class__, int)
        self.assertIs(under.__class__, int)
        self.assertGreaterEqual(under, 1)
        self.assertEqual(gcd(over, under), 1)


class Checks(Raising, unittest.TestCase):
    def bad(self, kind, town, chances):
        self.assert_raises_just(kind, {}, check_chances, town, chances)

    def test_good_ones(self):
        for town, chances in [*small_cases(), *great_cases()]:
            self.assertIsNone(check_chances(town, chances))
        self.assertIsNone(check_chances(TWO_PIECES, OF_FIVE))

    def test_good_ones_at_their_bounds(self):
        self.assertIsNone(check_chances(PAIR, [(0, 1), (1, 1)]))
        self.assertIsNone(check_chances(PAIR, [(1, 1), (0, 1)]))
        self.assertIsNone(check_chances(PAIR, [(1, 100), (99, 100)]))
        self.assertIsNone(check_chances((7, []), HUNDREDTHS))

    def test_as_many_as_places(self):
        for chances in [[], [(1, 1)], [(1, 2), (1, 4), (1, 4)], [(1, 2), (1, 2), (0, 1)]]:
            self.bad(BadSize, PAIR, chances)
        self.bad(BadSize, ALONE, [])

    def test_size_comes_ahead_of_numbers(self):
        self.bad(BadSize, PAIR, [(1, 2), (1, 2), (0, 2)])
        self.bad(BadSize, PAIR, [(True, 1)])
        self.bad(BadSize, PATH, [(1, 0), (None, 1)])

    def test_lowest_terms(self):
        for chances in [[(2, 4), (1, 2)], [(1, 2), (2, 4)], [(0, 2), (1, 1)], [(0, 100), (1, 1)], [(0, 1), (2, 2)]]:
            self.bad(BadNumber, PAIR, chances)

    def test_from_0_to_1(self):
        for chances in [[(-1, 2), (3, 2)], [(3, 2), (-1, 2)], [(-1, 1), (2, 1)], [(0, 1), (2, 1)], [(1, -1), (2, 1)]]:
            self.bad(BadNumber, PAIR, chances)
        # One of them alone is faulty, and together they are 1.
        for chances in [[(-1, 2), (1, 2), (1, 1)], [(1, 1), (-1, 100), (1, 100)], [(1, 1), (1, 1), (-1, 1)]]:
            self.bad(BadNumber, PATH, chances)

    def test_divisors_from_1_to_100(self):
        for chances in [
            [(1, 101), (100, 101)], [(0, 0), (1, 1)], [(1, 0), (0, 1)], [(-1, -2), (1, 2)], [(0, -1), (1, 1)],
            [(1, 1), (0, 0)], [(-1, -1), (0, 1)], [(1, 1000), (999, 1000)],
        ]:
            self.bad(BadNumber, PAIR, chances)

    def test_no_whole_numbers(self):
        for value in NO_WHOLE_NUMBERS:
            self.bad(BadNumber, PAIR, [(value, 1), (0, 1)])
            self.bad(BadNumber, PAIR, [(value, 1), (1, 1)])
            self.bad(BadNumber, PAIR, [(1, 1), (0, value)])
            self.bad(BadNumber, PAIR, [(1, 2), (1, value)])
        self.bad(BadNumber, PAIR, [(Fraction(1, 2), 1), (1, 2)])

    def test_together_1(self):
        for chances in [
            [(1, 2), (1, 3)], [(1, 2), (2, 3)], [(0, 1), (0, 1)], [(1, 1), (1, 1)], [(1, 100), (49, 50)],
            [(99, 100), (1, 99)],
        ]:
            self.bad(BadNumber, PAIR, chances)
        self.bad(BadNumber, (7, []), [(1, 7)] * 6 + [(0, 1)])


class AnsweredChances(Forms):
    def test_all_of_small_towns(self):
        for (town, chances), helpers, rule in product(small_cases(), (1, 2, 3), RULES):
            for reach, many in product((0, 2, 60), (0, 1, 2, 5)):
                plain = plain_chances(town, helpers, chances, rule, reach, many)
                table = chance_table(town, helpers, chances, rule=rule, reach=reach, many=many)
                self.assertEqual(table, [(stand, told(plain[stand])) for stand in sorted(plain)])
                for stand, chance in table[::3]:
                    self.check_form(chance)
                    one = answered_chance(town, stand, chances, rule=rule, reach=reach, many=many)
                    self.assertEqual(one, chance)

    def test_known_ones(self):
        told_of = {"rule": "one", "reach": 1}
        chances = [(1, 4), (1, 2), (1, 4)]
        self.assertEqual(answered_chance(PATH, (1,), chances, many=0, **told_of), (1, 1))
        self.assertEqual(answered_chance(PATH, (1,), chances, many=1, **told_of), (1, 1))
        self.assertEqual(answered_chance(PATH, (1,), chances, many=2, **told_of), (7, 8))
        self.assertEqual(answered_chance(PATH, (0,), chances, many=1, **told_of), (3, 4))
        # With reach 0 one helper stays for ever, as long as the calls come to him.
        self.assertEqual(answered_chance(PATH, (0,), chances, rule="all", reach=0, many=20), (1, 4 ** 20))
        self.assertEqual(answered_chance(PATH, (1,), chances, rule="one", reach=0, many=20), (1, 2 ** 20))
        self.assertEqual(answered_chance(PATH, (0, 2), chances, rule="one", reach=0, many=3), (1, 8))

    def test_places_that_cannot_be_answered(self):
        # Nobody ever comes to places 2 and 4; their chances tell how much is lost.
        for chances, chance in [
            ([(1, 2), (1, 2), (0, 1), (0, 1), (0, 1)], (1, 1)),
            ([(1, 4), (1, 4), (1, 2), (0, 1), (0, 1)], (1, 8)),
            ([(0, 1), (0, 1), (1, 2), (0, 1), (1, 2)], (0, 1)),
        ]:
            for rule in RULES:
                found = answered_chance(TWO_PIECES, (0, 1), chances, rule=rule, reach=60, many=3)
                self.assertEqual(found, chance)

    def test_it_never_rises_with_the_calls(self):
        for (town, chances), rule in product([(TWO_PIECES, OF_FIVE), (TOWN, UNEVEN), (RING, THREE)], RULES):
            ahead = {stand: Fraction(1) for stand in plain_stands(town, 2)}
            for many in range(8):
                now = by_whole(chance_table(town, 2, chances, rule=rule, reach=2, many=many))
                self.assertTrue(all(now[stand] <= ahead[stand] for stand in ahead))
                ahead = now

    def test_1_for_safe_stands_and_for_less_calls_than_the_rank(self):
        seen = set()
        for (town, chances), helpers, rule in product(
            [*[(LINE, chances) for chances in OF_FOUR], (TOWN, EVEN), (PATH, [(1, 4), (1, 2), (1, 4)]),
             (TWO_PIECES, OF_FIVE), (LONG_LOST, [(1, 3), (1, 6), (1, 8), (1, 8), (1, 8), (1, 8)])], (1, 2, 3), RULES,
        ):
            calls = [place for place, chance in enumerate(chances) if chance[0]]
            for reach in (1, 2, 3):
                rank_of = dict(ranks(town, helpers, rule=rule, reach=reach, calls=calls))
                tables = [
                    dict(chance_table(town, helpers, chances, rule=rule, reach=reach, many=many)) for many in range(7)
                ]
                for stand in plain_stands(town, helpers):
                    rank = rank_of.get(stand)
                    sure = [table[stand] == (1, 1) for table in tables]
                    self.assertEqual(sure, [rank is None or many < rank for many in range(7)])
                    seen.add(rank)
        self.assertLessEqual({None, 1, 2, 3, 4}, seen)

    def test_20_calls_by_3_helpers_at_7_places(self):
        for town, chances in [(SEVEN, OF_SEVEN), (FULL, HUNDREDTHS)]:
            for rule, reach in [("one", 4), ("all", 1), ("all", 60)]:
                plain = plain_chances(town, 3, chances, rule, reach, 20)
                table = chance_table(town, 3, chances, rule=rule, reach=reach, many=20)
                self.assertEqual(table, [(stand, told(plain[stand])) for stand in sorted(plain)])
                self.assertEqual(answered_chance(town, (0, 3, 6), chances, rule=rule, reach=reach, many=20),
                                 told(plain[0, 3, 6]))


class MeanTotals(Forms):
    def test_small_towns(self):
        for (town, chances), helpers, many in product(small_cases(), (1, 2), (0, 1, 2, 6)):
            for stand, total in plain_totals(town, helpers, chances, many).items():
                found = mean_total(town, stand, chances, many=many)
                self.assertEqual(found, told(total))
                self.check_form(found)

    def test_20_calls(self):
        for (town, chances), stand in product(
            [(SEVEN, OF_SEVEN), (FULL, HUNDREDTHS), (spread_town(3, 7, 9), spread_chances(8, 7))], [(2,), (0, 5), (6, 6)],
        ):
            plain = plain_totals(town, len(stand), chances, 20)
            self.assertEqual(mean_total(town, stand, chances, many=20), told(plain[stand]))

    def test_known_ones(self):
        chances = [(1, 4), (1, 2), (1, 4)]
        self.assertEqual(mean_total(PATH, (1,), chances, many=0), (0, 1))
        self.assertEqual(mean_total(PATH, (1,), chances, many=1), (1, 2))
        self.assertEqual(mean_total(PATH, (1,), chances, many=2), (5, 4))
        self.assertEqual(mean_total(PAIR, (0,), [(0, 1), (1, 1)], many=20), (9, 1))
        self.assertEqual(mean_total(PAIR, (0, 1), [(1, 2), (1, 2)], many=20), (0, 1))

    def test_never_more_than_by_nearest_answers(self):
        less = 0
        for seed in range(12):
            town, chances = spread_town(seed, 4, 4), spread_chances(seed, 4)
            nearest = totals_by_nearest(town, chances, 20)
            for stand in ((0, 1), (2, 3), (1, 1)):
                total = Fraction(*mean_total(town, stand, chances, many=20))
                self.assertLessEqual(total, nearest[stand])
                less += total < nearest[stand]
        self.assertGreater(less, 0)

    def test_bounds_by_a_paper(self):
        # Point 42: n times the number, and the lead less the greatest, or the least, of the leads.
        for (town, chances), helpers, many in product([(TOWN, UNEVEN), (RING, THREE), (LINE, EVEN)], (1, 2), (1, 7, 20)):
            number, rows = mean_paper(town, helpers, chances)
            leads = by_whole(rows)
            for stand, lead in leads.items():
                total = Fraction(*mean_total(town, stand, chances, many=many))
                self.assertGreaterEqual(total, many * Fraction(*number) + lead - max(leads.values()))
                self.assertLessEqual(total, many * Fraction(*number) + lead - min(leads.values()))


class Papers(Forms):
    CHANCES = [(1, 4), (1, 2), (1, 4)]
    ROWS = [((0,), (1, 2)), ((1,), (0, 1)), ((2,), (1, 2))]

    def judged(self, number, rows, town=PATH, helpers=1, chances=None):
        paper = (number, rows)
        chances = self.CHANCES if chances is None else chances
        above = is_above(town, helpers, chances, paper)
        below = is_below(town, helpers, chances, paper)
        self.assertIn(above, (True, False))
        self.assertIs(above.__class__, bool)
        self.assertIs(below.__class__, bool)
        return above, below

    def test_sides(self):
        self.assertEqual(side_of(PATH, (1,), self.CHANCES, self.ROWS), (3, 4))
        self.assertEqual(side_of(PATH, (0,), self.CHANCES, self.ROWS), (5, 4))
        self.assertEqual(side_of(PATH, (2,), self.CHANCES, self.ROWS[::-1]), (5, 4))
        self.assertEqual(side_of(PATH, (2,), self.CHANCES, [((0,), (-5, 2)), ((1,), (-7, 1)), ((2,), (1, 3))]), (-73, 24))

    def test_sides_by_drawn_leads(self):
        rng = Random(7)
        for (town, chances), helpers in product([*small_cases(), *great_cases()], (1, 2)):
            leads = {
                stand: Fraction(rng.randint(-30, 30), rng.choice([1, 1, 2, 3, 7, 10]))
                for stand in plain_stands(town, helpers)
            }
            rows = [(stand, told(lead)) for stand, lead in leads.items()]
            rng.shuffle(rows)
            for stand in list(leads)[::4]:
                found = side_of(town, stand, chances, rows)
                self.assertEqual(found, told(plain_side(town, stand, chances, leads)))
                self.check_form(found)

    def test_number_just_too_small_or_too_great(self):
        self.assertEqual(self.judged((3, 4), self.ROWS), (True, True))
        self.assertEqual(self.judged((749, 1000), self.ROWS), (False, True))
        self.assertEqual(self.judged((751, 1000), self.ROWS), (True, False))
        self.assertEqual(self.judged((0, 1), self.ROWS), (False, True))
        self.assertEqual(self.judged((-3, 4), self.ROWS), (False, True))
        self.assertEqual(self.judged((1, 1), self.ROWS), (True, False))

    def test_a_lead_changed(self):
        for at, (stand, (over, under)) in enumerate(self.ROWS):
            for less in (-1, 1):
                rows = list(self.ROWS)
                rows[at] = (stand, told(Fraction(over, under) + Fraction(less, 100)))
                self.assertEqual(self.judged((3, 4), rows), (False, False), rows)

    def test_leads_that_are_all_greater_or_below_0(self):
        for more in (Fraction(5), Fraction(-7, 3)):
            rows = [(stand, told(Fraction(*lead) + more)) for stand, lead in self.ROWS]
            self.assertEqual(self.judged((3, 4), rows), (True, True))

    def test_rows_in_any_order(self):
        self.assertEqual(self.judged((3, 4), self.ROWS[::-1]), (True, True))
        self.assertEqual(self.judged((3, 4), [self.ROWS[1], self.ROWS[2], self.ROWS[0]]), (True, True))
        self.assertEqual(self.judged((1, 2), [self.ROWS[1], self.ROWS[0], self.ROWS[2]]), (False, True))

    def test_no_paper(self):
        # Stands that lack, or stand twice, also with the same lead; a number that all would be right for otherwise.
        for number in ((-100, 1), (3, 4), (100, 1)):
            for rows in [
                [], self.ROWS[:2], self.ROWS[1:], [self.ROWS[0], self.ROWS[2]], [*self.ROWS, self.ROWS[0]],
                [self.ROWS[0], self.ROWS[1], self.ROWS[1]], [*self.ROWS, ((2,), (0, 1))], self.ROWS[:1] * 3,
            ]:
                self.assertEqual(self.judged(number, rows), (False, False), rows)

    def test_drawn_papers(self):
        rng = Random(11)
        seen = set()
        for _ in range(300):
            town, chances = rng.choice([(TOWN, EVEN), (PATH, self.CHANCES), (RING, THREE), (PAIR, [(1, 100), (99, 100)])])
            helpers = rng.choice([1, 2])
            number, rows = mean_paper(town, helpers, chances)
            leads = by_whole(rows)
            if rng.random() < 0.5:
                leads[rng.choice(list(leads))] += Fraction(rng.randint(-2, 2), 3)
            number = Fraction(*number) + Fraction(rng.randint(-1, 1) * rng.randint(0, 3), 2)
            plain = (
                is_plainly_above(town, helpers, chances, number, leads),
                is_plainly_below(town, helpers, chances, number, leads),
            )
            rows = [(stand, told(lead)) for stand, lead in leads.items()]
            rng.shuffle(rows)
            self.assertEqual(self.judged(told(number), rows, town, helpers, chances), plain)
            seen.add(plain)
        self.assertEqual(len(seen), 4)


class LeastMeans(Forms):
    def check(self, town, helpers, chances):
        number, rows = mean_paper(town, helpers, chances)
        self.assertEqual([stand for stand, _ in rows], plain_stands(town, helpers))
        for value in [number, *[lead for _, lead in rows]]:
            self.check_form(value)
        # From both sides, by the plain judge, so the number can be no other.
        leads, mean = by_whole(rows), Fraction(*number)
        self.assertTrue(is_plainly_above(town, helpers, chances, mean, leads), (town, helpers, chances))
        self.assertTrue(is_plainly_below(town, helpers, chances, mean, leads), (town, helpers, chances))
        self.assertIs(is_above(town, helpers, chances, (number, rows)), True)
        self.assertIs(is_below(town, helpers, chances, (number, rows)), True)
        self.assertEqual(least_mean(town, helpers, chances), number)
        return mean

    def test_small_towns(self):
        for (town, chances), helpers in product(small_cases(), (1, 2)):
            self.check(town, helpers, chances)

    def test_great_towns(self):
        for (town, chances), helpers in product(great_cases(), (1, 2)):
            self.check(town, helpers, chances)

    def test_drawn_towns(self):
        for seed in range(150):
            places = 2 + seed % 5
            self.check(spread_town(seed, places, places + seed % 4), 1 + seed % 2, spread_chances(seed, places))

    def test_one_helper(self):
        for town, chances in [*small_cases(), *great_cases()]:
            self.assertEqual(least_mean(town, 1, chances), told(mean_of_one(town, chances)))

    def test_the_mean_totals_come_near(self):
        for (town, chances), helpers in product([(TOWN, EVEN), (RING, UNEVEN), (PATH, [(1, 4), (1, 2), (1, 4)])], (1, 2)):
            mean = Fraction(*least_mean(town, helpers, chances))
            for total in plain_totals(town, helpers, chances, 60).values():
                self.assertLess(abs(total / 60 - mean), Fraction(1, 4))

    def test_known_ones(self):
        self.assertEqual(least_mean(PATH, 1, [(1, 4), (1, 2), (1, 4)]), (3, 4))
        # One helper stays at place 0, and the other one goes to and fro between the others: one call of three.
        corner = (3, [(0, 1, 9), (1, 2, 1)])
        self.assertEqual(least_mean(corner, 2, [(1, 3), (1, 3), (1, 3)]), (1, 3))
        self.assertEqual(least_mean(PAIR, 1, [(1, 100), (99, 100)]), (891, 5000))

    def test_never_greater_with_one_helper_more(self):
        for town, chances in [*small_cases(), *list(great_cases())[:6]]:
            one, two = [Fraction(*least_mean(town, helpers, chances)) for helpers in (1, 2)]
            self.assertLessEqual(two, one)

    def test_0_if_each_called_place_can_have_a_helper(self):
        for town, chances, helpers, is_nought in [
            (TOWN, SURE, 1, True), (TOWN, SURE, 2, True), (TOWN, SOME, 2, True), (TOWN, SOME, 1, False),
            (TOWN, THREE, 2, False), (ALONE, [(1, 1)], 1, True), (ALONE, [(1, 1)], 2, True),
            (PAIR, [(1, 100), (99, 100)], 2, True), (SEVEN, [(0, 1)] * 5 + [(1, 2), (1, 2)], 2, True),
        ]:
            self.assertEqual(self.check(town, helpers, chances) == 0, is_nought)
            self.assertEqual(least_mean(town, helpers, chances) == (0, 1), is_nought)

    def test_lengths_multiplied(self):
        for (places, roads), chances in [(LINE, UNEVEN), (RING, THREE), (PATH, [(1, 4), (1, 2), (1, 4)]), (TRIANGLE, [(1, 3)] * 3)]:
            most = 9 // max(length for _, _, length in roads)
            for helpers, by in product((1, 2), range(1, most + 1)):
                longer = (places, [(a, b, length * by) for a, b, length in roads])
                mean = Fraction(*least_mean((places, roads), helpers, chances))
                self.assertEqual(least_mean(longer, helpers, chances), told(mean * by))

    def test_the_same_from_all_stands(self):
        # A helper who stands where no call comes from, for ever, is of no use: no stand has a mean of its own.
        star = (5, [(0, 4, 1), (1, 4, 9), (2, 4, 1), (3, 4, 2)])
        chances = [(1, 3), (0, 1), (1, 3), (1, 3), (0, 1)]
        mean = self.check(star, 2, chances)
        for total in plain_totals(star, 2, chances, 60).values():
            self.assertLess(abs(total / 60 - mean), Fraction(1, 3))


if __name__ == "__main__":
    unittest.main()
