"""Points 32 to 37: least rates, rows of leads, answerings and callings, and the rates of their rounds."""

import unittest
from fractions import Fraction
from itertools import product
from math import gcd
from random import Random

from evernear.long import (
    best_answering, best_calling, best_rate, is_above, is_below, least_rate, rows_above, rows_below, worst_rate,
)
from evernear.rows import least_cost
from tests.samples import LINE, TOWN, TRIANGLE, parts_of, plain_move, plain_replies, plain_stands, plain_ways, spread_town

RULES = ("one", "all")
# Towns with the least rates, by 2 helpers, 23/5, 13/2 and 13/3; by 3 helpers, 42/5; all places call.
RING = (5, [(0, 1, 4), (0, 2, 4), (1, 3, 3), (2, 4, 3), (3, 4, 3)])
BOW = (5, [(0, 2, 4), (0, 3, 4), (1, 3, 5), (1, 4, 5), (2, 4, 5)])
NET = (5, [(0, 2, 4), (0, 3, 4), (0, 4, 5), (1, 3, 4), (1, 4, 3), (2, 3, 5), (2, 4, 3), (3, 4, 5)])
SIX = (6, [(0, 3, 6), (0, 5, 8), (1, 5, 9), (2, 3, 8), (2, 4, 5), (4, 5, 5)])
# With 2 helpers the least rate 7 if 0, 1, 3 and 4 call. The totals grow to and fro: what is above after an even number of
# calls is not so after an odd one.
KITE = (5, [(0, 1, 7), (0, 4, 9), (1, 3, 4), (2, 4, 7), (3, 4, 4)])
# With 3 helpers the least rates 40/7 and 61/10.
SEVEN = (7, [(0, 2, 4), (0, 3, 5), (0, 5, 8), (1, 2, 4), (1, 3, 5), (1, 5, 6), (1, 6, 5), (2, 4, 5), (2, 5, 6), (3, 5, 5),
             (4, 5, 4), (4, 6, 7)])
TEN = (7, [(0, 1, 8), (0, 2, 7), (0, 3, 6), (0, 5, 5), (1, 2, 4), (1, 3, 7), (1, 4, 4), (1, 5, 8), (2, 4, 7), (2, 5, 5),
           (3, 5, 9), (3, 6, 6), (4, 5, 8), (4, 6, 6), (5, 6, 7)])
# It takes many calls until the totals grow by the same number from all stands.
SLOW = (7, [(0, 1, 4), (0, 4, 3), (0, 6, 9), (1, 2, 4), (1, 4, 5), (1, 5, 9), (1, 6, 5), (2, 6, 4), (3, 5, 9), (4, 6, 2)])
KNOWN = [
    (RING, 2, [0, 1, 2, 3, 4], (23, 5)), (BOW, 2, [0, 1, 2, 3, 4], (13, 2)), (NET, 2, [0, 1, 2, 3, 4], (13, 3)),
    (SIX, 3, [0, 1, 2, 3, 4, 5], (42, 5)), (KITE, 2, [0, 1, 3, 4], (7, 1)), (TOWN, 1, [0, 1, 3], (6, 1)), (TOWN, 2, [0, 1, 3], (2, 1)),
    (TOWN, 3, [0, 1, 3], (0, 1)), ((1, []), 2, [0], (0, 1)),
]
GREAT = [(SEVEN, 3, list(range(7)), (40, 7)), (TEN, 3, list(range(7)), (61, 10)), (SLOW, 3, [0, 1, 2, 4, 6], None)]


def small_cases():
    for town, helpers in product([TOWN, LINE, TRIANGLE, (2, [(0, 1, 9)]), (1, [])], (1, 2, 3)):
        for calls in parts_of(list(range(town[0]))):
            yield town, helpers, calls


def by_whole(rows):
    return {stand: Fraction(*lead) for stand, lead in rows}


def plain_is_above(town, helpers, calls, rate, leads, rule):
    replies = plain_replies(town, helpers, rule, 60)
    return all(
        any(length + leads[answer] <= leads[stand] + rate for answer, length in replies[stand, call])
        for stand in leads for call in calls
    )


def plain_is_below(town, helpers, calls, rate, leads, rule):
    replies = plain_replies(town, helpers, rule, 60)
    return all(
        any(all(length + leads[answer] >= leads[stand] + rate for answer, length in replies[stand, call])
            for call in calls)
        for stand in leads
    )


def steps_of(answering, town):
    between = plain_ways(town)
    steps = {}
    for stand, _, answer in answering:
        steps.setdefault(stand, []).append((answer, plain_move(between, stand, answer, 60)))
    return steps


def steps_against(calling, town, rule):
    replies = plain_replies(town, len(calling[0][0]), rule, 60)
    return {stand: replies[stand, call] for stand, call in calling}


def rates_of_rounds(steps, start):
    """The rates of all rounds that go through no stand twice and can be come to from the start."""
    reached = [start]
    for stand in reached:
        reached += sorted({answer for answer, _ in steps[stand]} - set(reached))
    found = set()

    def go(first, stand, seen, total):
        for answer, length in steps[stand]:
            if answer == first:
                found.add(Fraction(total + length, len(seen)))
            elif answer > first and answer not in seen:
                go(first, answer, [*seen, answer], total + length)

    for stand in reached:
        go(stand, stand, [stand], 0)
    return found


def greatest_is(steps, start, rate):
    """Whether this is the greatest rate: no round is above it, and one that is not below it can be come to."""
    reached = [start]
    for stand in reached:
        reached += sorted({answer for answer, _ in steps[stand]} - set(reached))
    # Two rates of rounds differ by at least this, as no round needs more steps than there are stands.
    less = Fraction(1, 2 * len(reached) ** 2)
    return not has_round_above(steps, reached, rate) and has_round_above(steps, reached, rate - less)


def has_round_above(steps, reached, rate):
    sums = {stand: 0 for stand in reached}
    over, under = rate.numerator, rate.denominator
    for _ in range(len(reached) + 1):
        changed = False
        for stand in reached:
            for answer, length in steps[stand]:
                total = sums[stand] + length * under - over
                if total > sums[answer]:
                    sums[answer] = total
                    changed = True
        if not changed:
            return False
    return True


def turned(steps):
    return {stand: [(answer, -length) for answer, length in found] for stand, found in steps.items()}


class LeastRates(unittest.TestCase):
    def test_known_ones(self):
        for town, helpers, calls, rate in KNOWN + GREAT[:2]:
            for rule in RULES:
                self.assertEqual(least_rate(town, helpers, calls, rule=rule), rate)

    def test_leads_from_both_sides_leave_no_other_rate(self):
        for (town, helpers, calls), rule in product([*small_cases(), *[case[:3] for case in KNOWN + GREAT]], RULES):
            rate = least_rate(town, helpers, calls, rule=rule)
            self.check_form(rate)
            above = rows_above(town, helpers, calls, rule=rule)
            below = rows_below(town, helpers, calls, rule=rule)
            for rows in (above, below):
                self.assertEqual([stand for stand, _ in rows], plain_stands(town, helpers))
                for _, lead in rows:
                    self.check_form(lead)
            told = Fraction(*rate)
            self.assertTrue(plain_is_above(town, helpers, calls, told, by_whole(above), rule))
            self.assertTrue(plain_is_below(town, helpers, calls, told, by_whole(below), rule))

    def check_form(self, value):
        over, under = value
        self.assertEqual((over.__class__, under.__class__), (int, int))
        self.assertGreaterEqual(under, 1)
        self.assertEqual(gcd(over, under), 1)

    def test_the_same_by_both_rules(self):
        for town, helpers, calls in small_cases():
            one = least_rate(town, helpers, calls, rule="one")
            self.assertEqual(least_rate(town, helpers, calls, rule="all"), one)

    def test_0_exactly_with_as_many_helpers_as_called_places(self):
        seen = set()
        for town, helpers, calls in small_cases():
            rate = least_rate(town, helpers, calls, rule="one")
            self.assertEqual(rate == (0, 1), helpers >= len(calls), (town, helpers, calls))
            self.assertGreaterEqual(rate[0], 0)
            seen.add(helpers - len(calls))
        self.assertEqual(seen, {-3, -2, -1, 0, 1, 2})

    def test_one_helper(self):
        for town in [TOWN, LINE, RING, SIX, SEVEN]:
            between = plain_ways(town)
            for calls in parts_of(list(range(town[0])))[::3]:
                greatest = max(between[pair] for pair in product(calls, repeat=2))
                for rule in RULES:
                    self.assertEqual(least_rate(town, 1, calls, rule=rule), (greatest, 1))

    def test_a_helper_more_or_a_called_place_less(self):
        for town in [TOWN, RING, BOW, NET]:
            for calls in parts_of(list(range(town[0]))):
                rates = [Fraction(*least_rate(town, helpers, calls, rule="one")) for helpers in (1, 2, 3)]
                self.assertEqual(rates, sorted(rates, reverse=True))
                if len(calls) > 1:
                    less = Fraction(*least_rate(town, 2, calls[1:], rule="one"))
                    self.assertLessEqual(less, rates[1])

    def test_the_cost_of_rows_of_calls(self):
        rng = Random(6)
        for town, helpers, calls, rate in KNOWN + GREAT[:1]:
            leads = by_whole(rows_above(town, helpers, calls, rule="one"))
            least = min(leads.values())
            for stand in sorted(leads)[::5]:
                for many in (0, 1, 2, 7, 30):
                    row = [rng.choice(calls) for _ in range(many)]
                    cost = least_cost(town, stand, row, rule="one", reach=60)
                    self.assertLessEqual(cost, many * Fraction(*rate) + leads[stand] - least)


class Leads(unittest.TestCase):
    """The towns are judged by rows of any kind, whoever made them."""

    def changed(self, rows, rng):
        """Rows with some leads just a little less or greater, of any sign."""
        shift = rng.choice([0, 0, Fraction(-70, 3), Fraction(5, 7)])
        found = []
        for stand, lead in rows:
            lead = Fraction(*lead) + shift
            if rng.random() < 0.15:
                lead += rng.choice([-1, 1]) * rng.choice([Fraction(1, 100), Fraction(1, 2), 3])
            found.append((stand, (lead.numerator, lead.denominator)))
        return found

    def test_rows_that_are_nearly_right(self):
        seen = set()
        rng = Random(11)
        for town, helpers, calls, rate in KNOWN[:7]:
            for rule, step, _ in product(RULES, (-1, Fraction(-1, 60), 0, Fraction(1, 60), 2), range(3)):
                told = Fraction(*rate) + step
                as_told = (told.numerator, told.denominator)
                above = self.changed(rows_above(town, helpers, calls, rule=rule), rng)
                below = self.changed(rows_below(town, helpers, calls, rule=rule), rng)
                for rows in (above, below):
                    leads = by_whole(rows)
                    is_one = plain_is_above(town, helpers, calls, told, leads, rule)
                    is_other = plain_is_below(town, helpers, calls, told, leads, rule)
                    self.assertIs(is_above(town, helpers, calls, as_told, rows, rule=rule), is_one)
                    self.assertIs(is_below(town, helpers, calls, as_told, rows, rule=rule), is_other)
                    seen |= {("above", is_one), ("below", is_other)}
        self.assertEqual(len(seen), 4)

    def test_for_the_least_rate_for_a_greater_and_for_a_less_one(self):
        for town, helpers, calls, (n, d) in KNOWN:
            for rule in RULES:
                above = rows_above(town, helpers, calls, rule=rule)
                below = rows_below(town, helpers, calls, rule=rule)
                for (over, under), is_one, is_other in [
                    ((n, d), True, True), ((n * 9 + 1, d * 9), True, False), ((n * 9 - 1, d * 9), False, True),
                    ((n + d * 99, d), True, False), ((-5, 2), False, True),
                ]:
                    rate = (over // gcd(over, under), under // gcd(over, under))
                    self.assertIs(is_above(town, helpers, calls, rate, above, rule=rule), is_one)
                    self.assertIs(is_below(town, helpers, calls, rate, below, rule=rule), is_other)

    def test_the_document(self):
        rows = [((0,), (0, 1)), ((1,), (0, 1)), ((2,), (3, 1)), ((3,), (4, 1))]
        self.assertIs(is_above(TOWN, 1, [0, 1], (2, 1), rows, rule="one"), True)
        self.assertIs(is_above(TOWN, 1, [0, 1], (19, 10), rows, rule="one"), False)
        self.assertIs(is_below(TOWN, 1, [0, 1], (2, 1), rows, rule="one"), True)
        self.assertIs(is_below(TOWN, 1, [0, 1], (21, 10), rows, rule="one"), False)

    def test_a_lead_that_is_just_too_small_or_too_great(self):
        town = (3, [(0, 1, 2), (1, 2, 2)])
        for lead, is_one, is_other in [((2, 1), True, True), ((199, 100), False, True), ((201, 100), True, False)]:
            rows = [((0,), (0, 1)), ((1,), (0, 1)), ((2,), lead)]
            for rule in RULES:
                self.assertIs(is_above(town, 1, [0, 1], (2, 1), rows, rule=rule), is_one)
                self.assertIs(is_below(town, 1, [0, 1], (2, 1), rows, rule=rule), is_other)
        for lead, is_one, is_other in [((-1, 1), False, True), ((1, 3), False, False), ((0, 1), True, True)]:
            rows = [((0,), lead), ((1,), (0, 1)), ((2,), (2, 1))]
            self.assertIs(is_above(town, 1, [0, 1], (2, 1), rows, rule="one"), is_one)
            plain = plain_is_below(town, 1, [0, 1], 2, by_whole(rows), "one")
            self.assertIs(is_below(town, 1, [0, 1], (2, 1), rows, rule="one"), plain)

    def test_stands_left_out_twice_or_out_of_order(self):
        for (town, helpers, calls, rate), rule in product(KNOWN[:7], RULES):
            for judge, rows in [(is_above, rows_above(town, helpers, calls, rule=rule)),
                                (is_below, rows_below(town, helpers, calls, rule=rule))]:
                self.assertIs(judge(town, helpers, calls, rate, rows, rule=rule), True)
                for at in range(len(rows)):
                    wrong = [rows[:at] + rows[at + 1:], rows[:at] + [rows[at]] + rows[at:]]
                    if at:
                        wrong.append(rows[:at - 1] + [rows[at], rows[at - 1]] + rows[at + 1:])
                        wrong.append(rows[:at] + [rows[at - 1]] + rows[at + 1:])
                    for other in wrong:
                        self.assertIs(judge(town, helpers, calls, rate, other, rule=rule), False)
                self.assertIs(judge(town, helpers, calls, rate, [], rule=rule), False)
                self.assertIs(judge(town, helpers, calls, rate, rows * 2, rule=rule), False)

    def test_the_greatest_towns(self):
        for (town, helpers, calls, _), rule in product(GREAT, RULES):
            rate = least_rate(town, helpers, calls, rule=rule)
            above = rows_above(town, helpers, calls, rule=rule)
            below = rows_below(town, helpers, calls, rule=rule)
            self.assertIs(is_above(town, helpers, calls, rate, above, rule=rule), True)
            self.assertIs(is_below(town, helpers, calls, rate, below, rule=rule), True)
            self.assertIs(is_above(town, helpers, calls, (rate[0] * 2 - 1, rate[1] * 2), above, rule=rule), False)
            self.assertIs(is_below(town, helpers, calls, (rate[0] * 2 + 1, rate[1] * 2), below, rule=rule), False)


class Rounds(unittest.TestCase):
    def some_answering(self, town, helpers, calls, rule, rng):
        replies = plain_replies(town, helpers, rule, 60)
        return [
            (stand, call, rng.choice(replies[stand, call])[0])
            for stand in plain_stands(town, helpers) for call in calls
        ]

    def some_calling(self, town, helpers, calls, rng):
        return [(stand, rng.choice(calls)) for stand in plain_stands(town, helpers)]

    def test_worst_rates_of_any_answering(self):
        rng = Random(1)
        differing = 0
        for (town, calls), helpers, rule, _ in product(
            [(TRIANGLE, [0, 1, 2]), (TRIANGLE, [0, 2]), (TOWN, [1]), (TOWN, [1, 3])], (1, 2), RULES, range(5),
        ):
            answering = self.some_answering(town, helpers, calls, rule, rng)
            steps = steps_of(answering, town)
            rates = {}
            for stand in steps:
                greatest = max(rates_of_rounds(steps, stand))
                rates[stand] = worst_rate(town, answering, stand)
                self.assertEqual(rates[stand], (greatest.numerator, greatest.denominator), (town, answering, stand))
                self.assertGreaterEqual(greatest, Fraction(*least_rate(town, helpers, calls, rule=rule)))
            differing += len(set(rates.values())) > 1
        self.assertGreater(differing, 5)

    def test_best_rates_of_any_calling(self):
        rng = Random(8)
        differing = 0
        for (town, calls), helpers, rule, _ in product(
            [(TRIANGLE, [0, 1, 2]), (TRIANGLE, [0, 2]), (TOWN, [0, 1, 2, 3])], (1, 2), RULES, range(5),
        ):
            calling = self.some_calling(town, helpers, calls, rng)
            steps = steps_against(calling, town, rule)
            rates = {}
            for stand in steps:
                least = min(rates_of_rounds(steps, stand))
                rates[stand] = best_rate(town, calling, stand, rule=rule)
                self.assertEqual(rates[stand], (least.numerator, least.denominator), (town, calling, stand, rule))
                self.assertLessEqual(least, Fraction(*least_rate(town, helpers, calls, rule=rule)))
            differing += len(set(rates.values())) > 1
        self.assertGreater(differing, 2)

    def test_greater_towns(self):
        rng = Random(3)
        for (town, helpers, calls, _), rule in product([*KNOWN[:5], GREAT[0]], RULES):
            answering = self.some_answering(town, helpers, calls, rule, rng)
            calling = self.some_calling(town, helpers, calls, rng)
            steps = steps_of(answering, town)
            against = turned(steps_against(calling, town, rule))
            for stand in plain_stands(town, helpers)[::31]:
                rate = Fraction(*worst_rate(town, answering, stand))
                self.assertTrue(greatest_is(steps, stand, rate))
                rate = Fraction(*best_rate(town, calling, stand, rule=rule))
                self.assertTrue(greatest_is(against, stand, -rate))

    def test_different_rounds_from_different_stands(self):
        town = (4, [(0, 1, 1), (1, 2, 5), (2, 3, 3)])
        # To a call from 1 each helper stays beside where it came from: who began at 3 goes on between 3 and 2.
        calling = [((0,), 1), ((1,), 0), ((2,), 3), ((3,), 2)]
        for rule in RULES:
            rates = [best_rate(town, calling, stand, rule=rule) for stand, _ in calling]
            self.assertEqual(rates, [(1, 1), (1, 1), (3, 1), (3, 1)])
        # Two calls from one stand: the worst round is that which is come to by the second call.
        answering = [((0,), 0, (0,)), ((0,), 3, (3,)), ((1,), 0, (0,)), ((1,), 3, (3,)), ((2,), 0, (0,)), ((2,), 3, (3,)),
                     ((3,), 0, (0,)), ((3,), 3, (3,))]
        self.assertEqual([worst_rate(town, answering, (place,)) for place in range(4)], [(9, 1)] * 4)
        answering = [((0, 0), 3, (0, 3)), ((0, 1), 3, (1, 3)), ((0, 2), 3, (0, 3)), ((0, 3), 3, (0, 3)),
                     ((1, 1), 3, (1, 3)), ((1, 2), 3, (1, 3)), ((1, 3), 3, (2, 3)), ((2, 2), 3, (2, 3)),
                     ((2, 3), 3, (1, 3)), ((3, 3), 3, (3, 3))]
        rates = {stand: worst_rate(town, answering, stand) for stand, _, _ in answering}
        self.assertEqual(rates, {
            (0, 0): (0, 1), (0, 1): (5, 1), (0, 2): (0, 1), (0, 3): (0, 1), (1, 1): (5, 1), (1, 2): (5, 1),
            (1, 3): (5, 1), (2, 2): (5, 1), (2, 3): (5, 1), (3, 3): (0, 1),
        })

    def test_the_helpers_choose_the_round(self):
        # Against calls from the end where nobody stands one helper at hand has the choice between two ends.
        town = (3, [(0, 1, 1), (0, 2, 9), (1, 2, 9)])
        calling = [((0, 0), 2), ((0, 1), 2), ((0, 2), 1), ((1, 1), 2), ((1, 2), 0), ((2, 2), 0)]
        for rule in RULES:
            self.assertEqual(best_rate(town, calling, (0, 2), rule=rule), (1, 1))
            self.assertEqual(best_rate(town, calling, (0, 0), rule=rule), (1, 1))

    def test_best_ones(self):
        for (town, helpers, calls), rule in product([*small_cases(), *[case[:3] for case in KNOWN[:5]]], RULES):
            rate = least_rate(town, helpers, calls, rule=rule)
            answering = best_answering(town, helpers, calls, rule=rule)
            calling = best_calling(town, helpers, calls, rule=rule)
            self.check_form(town, helpers, calls, rule, answering, calling)
            for stand in plain_stands(town, helpers)[::4 if town in (SIX, LINE, TOWN) else 1]:
                self.assertEqual(worst_rate(town, answering, stand), rate, (town, helpers, calls, rule))
                self.assertEqual(best_rate(town, calling, stand, rule=rule), rate, (town, helpers, calls, rule))

    def check_form(self, town, helpers, calls, rule, answering, calling):
        stands = plain_stands(town, helpers)
        replies = plain_replies(town, helpers, rule, 60)
        self.assertEqual([row[:2] for row in answering], list(product(stands, calls)))
        self.assertEqual([stand for stand, _ in calling], stands)
        for stand, call, answer in answering:
            self.assertIn(answer, dict(replies[stand, call]))
        for _, call in calling:
            self.assertIn(call, calls)

    def test_best_ones_of_the_greatest_towns(self):
        for (town, helpers, calls, _), rule in product(GREAT, RULES):
            rate = least_rate(town, helpers, calls, rule=rule)
            answering = best_answering(town, helpers, calls, rule=rule)
            calling = best_calling(town, helpers, calls, rule=rule)
            self.check_form(town, helpers, calls, rule, answering, calling)
            steps = steps_of(answering, town)
            against = turned(steps_against(calling, town, rule))
            for stand in plain_stands(town, helpers)[::40]:
                self.assertEqual(worst_rate(town, answering, stand), rate)
                self.assertEqual(best_rate(town, calling, stand, rule=rule), rate)
            self.assertFalse(has_round_above(steps, sorted(steps), Fraction(*rate)))
            self.assertFalse(has_round_above(against, sorted(against), -Fraction(*rate)))


if __name__ == "__main__":
    unittest.main()
