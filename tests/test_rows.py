"""Points 27 to 31: plans for rows of calls, their costs, rests and tables, and the nearest way."""

import unittest
from itertools import product
from random import Random

from evernear.rows import (
    best_answers, best_plan, best_start, count_best, is_row_table, least_cost, nearest_plan, plan_cost, row_table,
    shows_no_plan, shows_plan,
)
from evernear.stands import move_length
from tests.samples import LINE, TOWN, TWO_PIECES, plain_replies, plain_stands, spread_town

RULES = ("one", "all")
GREAT = spread_town(5, 7, 9)
SIDES = (3, [(0, 1, 3), (0, 2, 5), (1, 2, 3)])
TOWNS = [TOWN, LINE, TWO_PIECES, SIDES]
ROWS = [[], [0], [2], [1, 1], [0, 2], [2, 1, 0], [0, 1, 2, 0], [2, 2, 1, 2]]


def cases(towns=TOWNS, reaches=(0, 1, 3, 5, 60), rows=ROWS, helpers=(1, 2)):
    for town, many, rule, reach in product(towns, helpers, RULES, reaches):
        for start in plain_stands(town, many)[::2]:
            for calls in rows:
                yield town, start, calls, {"rule": rule, "reach": reach}


def plain_plans(town, start, calls, told):
    """All plans with their costs, gone through one by one."""
    replies = plain_replies(town, len(start), told["rule"], told["reach"])
    plans = [([], 0)]
    for call in calls:
        plans = [
            ([*plan, answer], cost + length)
            for plan, cost in plans for answer, length in replies[(plan or [start])[-1], call]
        ]
    return plans


def plain_rests(town, helpers, calls, told):
    """The rests of all places and stands, by the words of point 28."""
    replies = plain_replies(town, helpers, told["rule"], told["reach"])
    rests = {(len(calls), stand): 0 for stand in plain_stands(town, helpers)}
    for at in reversed(range(len(calls))):
        for stand in plain_stands(town, helpers):
            found = [
                length + rests[at + 1, answer] for answer, length in replies[stand, calls[at]]
                if rests[at + 1, answer] is not None
            ]
            rests[at, stand] = min(found, default=None)
    return rests


def plain_is_table(town, start, calls, table, told):
    """By the words of point 29; None is taken for a number that is greater than each other one."""
    great = 10 ** 9
    keys = [(at, stand) for at, stand, _ in table]
    bounds = {(at, stand): great if bound is None else bound for at, stand, bound in table}
    if keys != sorted(set(keys)) or (0, start) not in bounds:
        return False
    replies = plain_replies(town, len(start), told["rule"], told["reach"])
    for (at, stand), bound in bounds.items():
        if at < 0 or at > len(calls) or bound < 0 or at == len(calls) and bound != 0:
            return False
        for answer, length in replies[stand, calls[at]] if at < len(calls) else []:
            if (at + 1, answer) not in bounds:
                return False
            if bound > min(great, length + bounds[at + 1, answer]):
                return False
    return True


class Costs(unittest.TestCase):
    def test_every_list_of_stands(self):
        for town, start, calls, told in cases(towns=[TOWN, TWO_PIECES], reaches=(0, 3, 60), rows=[[], [1], [2, 1]]):
            costs = {tuple(plan): cost for plan, cost in plain_plans(town, start, calls, told)}
            for many in range(len(calls) + 2 if len(start) == 1 else len(calls) + 1):
                for plan in product(plain_stands(town, len(start)), repeat=many):
                    cost = plan_cost(town, start, calls, list(plan), **told)
                    self.assertEqual(cost, costs.get(plan), (town, start, calls, plan, told))

    def test_too_short_too_long_and_one_stand_exchanged(self):
        plan = [(1, 2), (0, 2), (0, 2), (0, 3)]
        calls = [1, 0, 2, 3]
        told = {"rule": "one", "reach": 2}
        self.assertEqual(plan_cost(TOWN, (0, 2), calls, plan, **told), 5)
        for less in range(4):
            self.assertIsNone(plan_cost(TOWN, (0, 2), calls, plan[:less], **told))
            self.assertIsNone(plan_cost(TOWN, (0, 2), calls[:less], plan, **told))
            self.assertEqual(plan_cost(TOWN, (0, 2), calls[:less], plan[:less], **told), [0, 2, 4, 4][less])
        self.assertIsNone(plan_cost(TOWN, (0, 2), calls, [*plan, (0, 3)], **told))
        self.assertIsNone(plan_cost(TOWN, (0, 2), calls, [(0, 2), *plan], **told))
        self.assertIsNone(plan_cost(TOWN, (0, 2), [], [(0, 2)], **told))
        self.assertEqual(plan_cost(TOWN, (0, 2), [], [], **told), 0)
        for at in range(4):
            for stand in plain_stands(TOWN, 2):
                other = plan[:at] + [stand] + plan[at + 1:]
                costs = {tuple(right): cost for right, cost in plain_plans(TOWN, (0, 2), calls, told)}
                self.assertEqual(plan_cost(TOWN, (0, 2), calls, other, **told), costs.get(tuple(other)))
        self.assertIsNone(plan_cost(TOWN, (0, 2), calls, plan, rule="one", reach=1))

    def test_the_length_of_an_answer_is_that_with_the_reach(self):
        self.assertEqual(plan_cost(SIDES, (0, 1), [2], [(1, 2)], rule="all", reach=3), 6)
        self.assertEqual(plan_cost(SIDES, (0, 1), [2], [(1, 2)], rule="all", reach=5), 5)
        self.assertEqual(plan_cost(SIDES, (0, 1), [2], [(1, 2)], rule="one", reach=5), 5)
        self.assertIsNone(plan_cost(SIDES, (0, 1), [2], [(1, 2)], rule="one", reach=3))


class Best(unittest.TestCase):
    def test_all_short_rows(self):
        kinds = set()
        for town, start, calls, told in cases():
            plans = plain_plans(town, start, calls, told)
            least = min((cost for _, cost in plans), default=None)
            best = sorted(plan for plan, cost in plans if cost == least)
            text = (town, start, calls, told)
            self.assertEqual(least_cost(town, start, calls, **told), least, text)
            self.assertEqual(best_plan(town, start, calls, **told), best[0] if best else None, text)
            self.assertEqual(count_best(town, start, calls, **told), len(best), text)
            firsts = sorted({plan[0] for plan in best}) if calls else []
            self.assertEqual(best_answers(town, start, calls, **told), firsts, text)
            kinds.add(min(len(best), 2))
            kinds.add(f"first {min(len(firsts), 2)}")
        self.assertEqual(kinds, {0, 1, 2, "first 0", "first 1", "first 2"})

    def test_rows_without_calls(self):
        for rule, reach in product(RULES, (0, 60)):
            told = {"rule": rule, "reach": reach}
            self.assertEqual(least_cost(TOWN, (1, 1, 3), [], **told), 0)
            self.assertEqual(best_plan(TOWN, (1, 1, 3), [], **told), [])
            self.assertEqual(count_best(TOWN, (1, 1, 3), [], **told), 1)
            self.assertEqual(best_answers(TOWN, (1, 1, 3), [], **told), [])
            self.assertEqual(nearest_plan(TOWN, (1, 1, 3), [], **told), [])
            self.assertEqual(best_start(TOWN, 3, [], **told), (0, (0, 0, 0)))
            self.assertEqual(row_table(TOWN, (1, 1, 3), [], **told), [(0, (1, 1, 3), 0)])

    def test_without_a_plan(self):
        for rule in RULES:
            told = {"rule": rule, "reach": 2}
            self.assertIsNone(least_cost(TOWN, (0, 1), [0, 3], **told))
            self.assertIsNone(best_plan(TOWN, (0, 1), [0, 3], **told))
            self.assertEqual(count_best(TOWN, (0, 1), [0, 3], **told), 0)
            self.assertEqual(best_answers(TOWN, (0, 1), [0, 3], **told), [])
            self.assertIsNone(least_cost(TWO_PIECES, (0,), [0, 1, 2], rule=rule, reach=60))
            self.assertIsNone(best_start(TWO_PIECES, 1, [0, 2], rule=rule, reach=60))

    def test_the_document(self):
        told = {"rule": "one", "reach": 60}
        self.assertEqual(least_cost(TOWN, (0, 3), [1, 0, 1, 0], **told), 4)
        self.assertEqual(best_plan(TOWN, (0, 3), [1, 0, 1, 0], **told), [(0, 1)] * 4)

    def test_many_best_plans(self):
        told = {"rule": "one", "reach": 60}
        town = (3, [(0, 1, 1), (0, 2, 1)])
        # Each of the calls from 1 and 2 can be answered by the helper at 0, or by the other one at the cost 2.
        self.assertEqual(count_best(town, (1, 2), [0, 1, 2], **told), 2)
        self.assertEqual(best_answers(town, (1, 2), [0, 1, 2], **told), [(0, 1), (0, 2)])
        calls = [0, 1, 2] * 20
        rests = plain_rests(town, 2, calls, told)
        many = {stand: 1 for stand in plain_stands(town, 2)}
        replies = plain_replies(town, 2, "one", 60)
        for at in reversed(range(60)):
            many = {
                stand: sum(many[answer] for answer, length in replies[stand, calls[at]]
                           if length + rests[at + 1, answer] == rests[at, stand])
                for stand in many
            }
        self.assertEqual(count_best(town, (1, 2), calls, **told), many[1, 2])
        self.assertGreater(many[1, 2], 10 ** 7)

    def test_plans_that_come_to_the_same_stand_by_other_ways(self):
        # By the rule "all" two moves within the reach may be shorter than one, but the calls do not give the time.
        town = (4, [(0, 2, 3), (0, 3, 2), (1, 2, 3), (1, 3, 2)])
        for told, calls in product([{"rule": "all", "reach": 3}, {"rule": "all", "reach": 2}], product(range(4), repeat=3)):
            for start in plain_stands(town, 2):
                plans = plain_plans(town, start, list(calls), told)
                least = min((cost for _, cost in plans), default=None)
                best = [plan for plan, cost in plans if cost == least]
                self.assertEqual(count_best(town, start, list(calls), **told), len(best))
                self.assertEqual(best_plan(town, start, list(calls), **told), min(best, default=None))
                self.assertEqual(best_answers(town, start, list(calls), **told), sorted({plan[0] for plan in best}))

    def test_best_start(self):
        for town, rule, reach, calls in product(TOWNS, RULES, (0, 1, 3, 60), ROWS):
            told = {"rule": rule, "reach": reach}
            for helpers in (1, 2, 3):
                rests = plain_rests(town, helpers, calls, told)
                found = [
                    (rests[0, stand], stand) for stand in plain_stands(town, helpers) if rests[0, stand] is not None
                ]
                self.assertEqual(best_start(town, helpers, calls, **told), min(found, default=None))

    def test_the_first_start_of_several(self):
        self.assertEqual(best_start(TOWN, 1, [2], rule="one", reach=60), (0, (2,)))
        self.assertEqual(best_start(TOWN, 2, [2], rule="all", reach=60), (0, (0, 2)))
        self.assertEqual(best_start(TOWN, 2, [1, 3, 1, 3], rule="one", reach=0), (0, (1, 3)))
        self.assertIsNone(best_start(TOWN, 1, [1, 3], rule="one", reach=0))
        self.assertEqual(best_start(TOWN, 1, [3, 0], rule="one", reach=60), (6, (3,)))

    def test_rows_of_60_calls(self):
        rng = Random(4)
        for rule, reach in product(RULES, (6, 60)):
            told = {"rule": rule, "reach": reach}
            calls = [rng.randrange(7) for _ in range(60)]
            start = (0, 2, 5)
            rests = plain_rests(GREAT, 3, calls, told)
            cost = least_cost(GREAT, start, calls, **told)
            self.assertEqual(cost, rests[0, start])
            found = [(rests[0, stand], stand) for stand in plain_stands(GREAT, 3) if rests[0, stand] is not None]
            self.assertEqual(best_start(GREAT, 3, calls, **told), min(found, default=None))
            plan = best_plan(GREAT, start, calls, **told)
            if cost is None:
                self.assertIsNone(plan)
                self.assertEqual(count_best(GREAT, start, calls, **told), 0)
                continue
            self.assertEqual(plan_cost(GREAT, start, calls, plan, **told), cost)
            replies = plain_replies(GREAT, 3, rule, reach)
            self.check_first(plan, start, calls, rests, replies)
            self.assertEqual(best_answers(GREAT, start, calls, **told)[0], plan[0])
            self.assertGreater(count_best(GREAT, start, calls, **told), 0)

    def check_first(self, plan, start, calls, rests, replies):
        """No answer ahead of that of the plan leads to a best plan."""
        for at, stand in enumerate([start, *plan[:-1]]):
            good = [
                answer for answer, length in replies[stand, calls[at]]
                if rests[at + 1, answer] is not None and length + rests[at + 1, answer] == rests[at, stand]
            ]
            self.assertEqual(plan[at], good[0])


class Nearest(unittest.TestCase):
    def test_all_short_rows(self):
        kinds = set()
        for town, start, calls, told in cases():
            replies = plain_replies(town, len(start), told["rule"], told["reach"])
            stands = [start]
            for call in calls:
                found = sorted((length, answer) for answer, length in replies[stands[-1], call])
                if not found:
                    stands = None
                    break
                kinds.add("several" if len(found) > 1 and found[0][0] == found[1][0] else "one")
                stands.append(found[0][1])
            plan = nearest_plan(town, start, calls, **told)
            self.assertEqual(plan, stands and stands[1:], (town, start, calls, told))
            least = least_cost(town, start, calls, **told)
            if plan is None:
                kinds.add("none" if least is None else "none, though there is a plan")
            else:
                cost = plan_cost(town, start, calls, plan, **told)
                self.assertGreaterEqual(cost, least)
                kinds.add("dearer" if cost > least else "best")
        self.assertEqual(kinds, {"several", "one", "none", "none, though there is a plan", "dearer", "best"})

    def test_dearer_than_a_best_one(self):
        told = {"rule": "one", "reach": 60}
        plan = nearest_plan(TOWN, (0, 3), [1, 0, 1, 0], **told)
        self.assertEqual(plan, [(1, 3), (0, 3), (1, 3), (0, 3)])
        self.assertEqual(plan_cost(TOWN, (0, 3), [1, 0, 1, 0], plan, **told), 8)

    def test_none_although_there_is_a_plan(self):
        told = {"rule": "one", "reach": 2}
        town = (4, [(0, 1, 2), (1, 2, 1), (2, 3, 2)])
        self.assertIsNone(nearest_plan(town, (0, 2), [1, 3], **told))
        self.assertEqual(best_plan(town, (0, 2), [1, 3], **told), [(1, 2), (1, 3)])

    def test_the_first_of_several(self):
        town = (3, [(0, 1, 1), (1, 2, 1)])
        self.assertEqual(nearest_plan(town, (0, 2), [1], rule="one", reach=60), [(0, 1)])
        self.assertEqual(nearest_plan(town, (0, 2), [1], rule="all", reach=60), [(0, 1)])

    def test_60_calls(self):
        row = [0, 1, 3, 2, 1] * 12
        for rule in RULES:
            plan = nearest_plan(TOWN, (0, 3), row, rule=rule, reach=60)
            self.assertEqual(len(plan), 60)
            self.assertTrue(all(call in stand for call, stand in zip(row, plan)))


class Tables(unittest.TestCase):
    def check(self, start, calls, table, told, town=TOWN):
        expected = plain_is_table(town, start, calls, table, told)
        self.assertIs(is_row_table(town, start, calls, table, **told), expected, (start, calls, table, told))
        return expected

    def test_what_can_be_come_to_with_the_rests(self):
        nones = False
        for town, start, calls, told in cases():
            rests = plain_rests(town, len(start), calls, told)
            replies = plain_replies(town, len(start), told["rule"], told["reach"])
            reached = {start}
            expected = [(0, start, rests[0, start])]
            for at, call in enumerate(calls, start=1):
                reached = {answer for stand in reached for answer, _ in replies[stand, call]}
                expected += [(at, stand, rests[at, stand]) for stand in sorted(reached)]
            table = row_table(town, start, calls, **told)
            self.assertEqual(table, expected, (town, start, calls, told))
            self.assertIs(is_row_table(town, start, calls, table, **told), True)
            nones = nones or None in [bound for _, _, bound in table]
        self.assertTrue(nones)

    def wrong_ones(self, table, calls):
        """Tables with one tuple left out, twice, exchanged with the next one, or with another bound or place."""
        for at, (place, stand, bound) in enumerate(table):
            ahead, behind = table[:at], table[at + 1:]
            yield ahead + behind
            yield [*ahead, table[at], table[at], *behind]
            yield [*ahead, table[at], (place, stand, (bound or 0) + 1), *behind]
            yield [*ahead, (place, stand, 0), table[at], *behind]
            yield [*ahead, *behind[:1], table[at], *behind[1:]]
            for other in [None, 0, 1, -1] + ([bound + 1, bound - 1] if bound is not None else [50]):
                yield [*ahead, (place, stand, other), *behind]
            for other in (-1, len(calls), len(calls) + 1):
                yield sorted([*ahead, (other, stand, bound), *behind], key=lambda row: row[:2])
        yield table[::-1]
        yield []

    def test_such_with_one_wrong_tuple(self):
        kinds = set()
        for _, start, calls, told in cases(towns=[TOWN], reaches=(1, 3, 60), rows=[[], [0], [2, 1], [0, 3, 1]]):
            table = row_table(TOWN, start, calls, **told)
            for other in self.wrong_ones(table, calls):
                kinds.add(self.check(start, calls, other, told))
        self.assertEqual(kinds, {True, False})

    def test_tuples_that_are_not_come_to(self):
        told = {"rule": "one", "reach": 4}
        table = row_table(TOWN, (2, 3), [1], **told)
        self.assertEqual(table, [(0, (2, 3), 3), (1, (1, 2), 0), (1, (1, 3), 0)])
        for row in [(1, (0, 0), 0), (1, (0, 0), 1), (0, (1, 2), 0), (0, (1, 2), 1), (0, (0, 3), 0), (0, (0, 3), 2)]:
            self.check((2, 3), [1], sorted([*table, row]), told)
        self.assertIs(is_row_table(TOWN, (2, 3), [1], sorted([*table, (1, (0, 0), 0)]), **told), True)
        self.assertIs(is_row_table(TOWN, (2, 3), [1], sorted([*table, (0, (0, 3), 2)]), **told), False)

    def test_bounds(self):
        told = {"rule": "one", "reach": 4}
        for bound, expected in [(3, True), (2, True), (0, True), (4, False), (-1, False), (None, False)]:
            table = [(0, (2, 3), bound), (1, (1, 2), 0), (1, (1, 3), 0)]
            self.assertIs(is_row_table(TOWN, (2, 3), [1], table, **told), expected, bound)
        for bound, expected in [(0, True), (1, False), (-1, False), (None, False)]:
            table = [(0, (2, 3), 0), (1, (1, 2), bound), (1, (1, 3), 0)]
            self.assertIs(is_row_table(TOWN, (2, 3), [1], table, **told), expected, bound)
            self.assertIs(is_row_table(TOWN, (2, 3), [], [(0, (2, 3), bound)], **told), expected)

    def test_none_and_numbers(self):
        told = {"rule": "one", "reach": 3}
        # From (0, 1) nobody comes to 3: behind this call there is nothing, and each bound holds.
        for bound in (None, 0, 7):
            self.assertIs(is_row_table(TOWN, (0, 1), [3], [(0, (0, 1), bound)], **told), True)
            for first in (None, 0, 7, 8):
                table = [(0, (0, 1), first), (1, (0, 1), bound)]
                expected = bound is None or first is not None and first <= bound
                self.assertIs(is_row_table(TOWN, (0, 1), [1, 3], table, **told), expected)
        self.assertIs(is_row_table(TOWN, (0, 1), [3], [(0, (0, 1), -1)], **told), False)

    def test_places_that_are_none(self):
        told = {"rule": "one", "reach": 3}
        right = [(0, (0, 1), 0), (1, (0, 1), 0)]
        self.assertIs(is_row_table(TOWN, (0, 1), [1], right, **told), True)
        for row in [(-1, (0, 1), 0), (2, (0, 1), 0), (60, (0, 1), None), (-1, (0, 1), None)]:
            self.assertIs(is_row_table(TOWN, (0, 1), [1], sorted([*right, row], key=lambda row: row[0]), **told), False)

    def test_without_the_start(self):
        told = {"rule": "one", "reach": 3}
        self.assertIs(is_row_table(TOWN, (0, 1), [], [], **told), False)
        self.assertIs(is_row_table(TOWN, (0, 1), [], [(0, (0, 2), 0)], **told), False)
        self.assertIs(is_row_table(TOWN, (0, 1), [1], [(1, (0, 1), 0)], **told), False)

    def test_each_bound_of_a_right_table_is_at_most_the_rest(self):
        rng = Random(9)
        right = 0
        for _, start, calls, told in cases(towns=[TOWN], reaches=(2, 60), rows=[[1, 2], [3, 0, 1]]):
            rests = plain_rests(TOWN, len(start), calls, told)
            for _ in range(6):
                table = [
                    (at, stand, bound and max(0, bound + rng.choice([-3, -1, 0, 0, 0, 1])))
                    for at, stand, bound in row_table(TOWN, start, calls, **told)
                ]
                if self.check(start, calls, table, told):
                    right += 1
                    for at, stand, bound in table:
                        rest = rests[at, stand]
                        self.assertTrue(rest is None or bound is not None and bound <= rest)
        self.assertGreater(right, 50)

    def test_60_calls_in_the_greatest_town(self):
        calls = [0, 3, 6, 2, 5, 1, 4] * 8 + [0, 1, 2, 3]
        for rule in RULES:
            told = {"rule": rule, "reach": 60}
            table = row_table(GREAT, (0, 2, 5), calls, **told)
            rests = plain_rests(GREAT, 3, calls, told)
            self.assertTrue(all(bound == rests[at, stand] for at, stand, bound in table))
            self.assertIs(is_row_table(GREAT, (0, 2, 5), calls, table, **told), True)
            at, stand, bound = table[len(table) // 2]
            wrong = [*table[:len(table) // 2], (at, stand, bound + 1), *table[len(table) // 2 + 1:]]
            self.assertIs(is_row_table(GREAT, (0, 2, 5), calls, wrong, **told), False)
            plan = best_plan(GREAT, (0, 2, 5), calls, **told)
            self.assertIs(shows_plan(GREAT, (0, 2, 5), calls, plan, table, **told), True)
            self.assertIs(shows_no_plan(GREAT, (0, 2, 5), calls, table, **told), False)


class Showing(unittest.TestCase):
    TOLD = {"rule": "one", "reach": 4}
    NEAR = {"rule": "one", "reach": 3}
    TABLE = [(0, (2, 3), 3), (1, (1, 2), 0), (1, (1, 3), 0)]

    def test_best_plans_and_no_others(self):
        for town, start, calls, told in cases(towns=[TOWN, TWO_PIECES], reaches=(0, 3, 60), rows=[[], [1], [2, 1]]):
            table = row_table(town, start, calls, **told)
            plans = plain_plans(town, start, calls, told)
            least = min((cost for _, cost in plans), default=None)
            self.assertIs(shows_no_plan(town, start, calls, table, **told), least is None)
            for plan, cost in plans:
                self.assertIs(shows_plan(town, start, calls, plan, table, **told), cost == least)
            self.assertIs(shows_plan(town, start, calls, [start] * (len(calls) + 1), table, **told), False)

    def test_what_shows_a_plan(self):
        table = self.TABLE
        self.assertIs(shows_plan(TOWN, (2, 3), [1], [(1, 3)], table, **self.TOLD), True)
        # (1, 2) costs 4; (1, 1) is no answer; the bound 2 is less than the cost; the table with 4 is wrong.
        self.assertIs(shows_plan(TOWN, (2, 3), [1], [(1, 2)], table, **self.TOLD), False)
        self.assertIs(shows_plan(TOWN, (2, 3), [1], [(1, 1)], table, **self.TOLD), False)
        for bound in (2, 4, None, 0, -1):
            other = [(0, (2, 3), bound), *table[1:]]
            self.assertIs(shows_plan(TOWN, (2, 3), [1], [(1, 3)], other, **self.TOLD), False)
        self.assertIs(shows_plan(TOWN, (2, 3), [1], [], table, **self.TOLD), False)
        self.assertIs(shows_plan(TOWN, (2, 3), [1], [(1, 3)], table[::-1], **self.TOLD), False)
        self.assertIs(shows_plan(TOWN, (2, 3), [1], [(1, 3)], [], **self.TOLD), False)
        # The start is told by its stand, not by its position in the table.
        more = [(0, (0, 1), 0), *table[:1], (1, (0, 1), 0), *table[1:]]
        self.assertIs(shows_plan(TOWN, (2, 3), [1], [(1, 3)], more, **self.TOLD), True)

    def test_what_shows_that_there_is_no_plan(self):
        self.assertIs(shows_no_plan(TOWN, (0, 1), [3], [(0, (0, 1), None)], **self.NEAR), True)
        for bound in (0, 5, -1):
            self.assertIs(shows_no_plan(TOWN, (0, 1), [3], [(0, (0, 1), bound)], **self.NEAR), False)
        self.assertIs(shows_no_plan(TOWN, (0, 1), [3], [], **self.NEAR), False)
        self.assertIs(shows_no_plan(TOWN, (0, 1), [3], [(0, (0, 2), None)], **self.NEAR), False)
        self.assertIs(shows_no_plan(TOWN, (2, 3), [1], self.TABLE, **self.TOLD), False)
        self.assertIs(shows_no_plan(TOWN, (2, 3), [1], [(0, (2, 3), None), *self.TABLE[1:]], **self.TOLD), False)
        self.assertIs(shows_plan(TOWN, (0, 1), [3], [(0, 3)], [(0, (0, 1), None)], **self.NEAR), False)
        more = [(0, (0, 0), 0), (0, (0, 1), None)]
        self.assertIs(shows_no_plan(TOWN, (0, 1), [3], more, **self.NEAR), True)


class OnePiece(unittest.TestCase):
    """Point 31."""

    def test_the_same_by_both_rules(self):
        for town, start, calls, _ in cases(towns=[TOWN, LINE, SIDES], reaches=(60,), helpers=(1, 2, 3)):
            one = least_cost(town, start, calls, rule="one", reach=60)
            self.assertEqual(least_cost(town, start, calls, rule="all", reach=60), one)

    def test_calls_left_out_and_stands_near_each_other(self):
        rng = Random(2)
        for rule in RULES:
            calls = [rng.randrange(7) for _ in range(12)]
            told = {"rule": rule, "reach": 60}
            cost = least_cost(GREAT, (0, 3), calls, **told)
            for at in range(12):
                self.assertLessEqual(least_cost(GREAT, (0, 3), calls[:at] + calls[at + 1:], **told), cost)
            for stand in plain_stands(GREAT, 2):
                other = least_cost(GREAT, stand, calls, **told)
                self.assertLessEqual(abs(other - cost), move_length(GREAT, (0, 3), stand))


if __name__ == "__main__":
    unittest.main()
