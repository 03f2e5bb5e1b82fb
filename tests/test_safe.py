"""Points 15 to 20: safe stands, ranks, closed lists, beating lists, and the rules that go by them."""

import unittest
from itertools import product

from evernear.safe import (
    beating_row, best_answer, calling_rule, gone, is_beating, is_closed, ranks, safe_rule, safe_stands, shows_safe,
)
from evernear.towns import with_road
from tests.samples import (
    LINE, SAMPLES, TOWN, TWO_PIECES, parts_of, plain_best, plain_ranks, plain_replies, plain_stands,
)

THREE_PIECES = (6, [(0, 2, 1), (1, 4, 3)])
PATH = (3, [(0, 1, 1), (1, 2, 1)])
RING = (5, [(0, 1, 1), (0, 4, 1), (1, 2, 1), (2, 3, 1), (3, 4, 1)])
STAR = (5, [(0, 1, 2), (0, 2, 1), (0, 3, 2), (0, 4, 2)])
FAN = (4, [(0, 2, 2), (1, 2, 4), (2, 3, 2)])
HUB = (5, [(0, 3, 2), (1, 4, 2), (2, 4, 1), (3, 4, 1)])
ISLE = (4, [(0, 2, 2), (0, 3, 1)])
GREAT = (7, [(0, 1, 3), (0, 2, 2), (2, 3, 2), (2, 6, 3), (4, 6, 3), (5, 6, 2)])
TOWNS = [*SAMPLES, THREE_PIECES, PATH, RING, STAR, FAN, HUB, ISLE]
RULES = ("one", "all")


def called(town):
    """Calls from all places, from one, and from some."""
    places = list(range(town[0]))
    return [list(row) for row in sorted({tuple(places), tuple(places[:1]), tuple(places[1::2] or places)})]


def cases(towns=TOWNS, helpers=(1, 2, 3), reaches=(0, 1, 2, 3, 5, 60)):
    for town, many, rule, reach in product(towns, helpers, RULES, reaches):
        for calls in called(town):
            yield town, many, {"rule": rule, "reach": reach, "calls": calls}


def plain_of(town, helpers, told):
    return plain_ranks(town, helpers, told["rule"], told["reach"], told["calls"])


def is_plainly_closed(town, stands, rule, reach, calls):
    if not stands:
        return True
    replies = plain_replies(town, len(stands[0]), rule, reach)
    return all(any(answer in stands for answer, _ in replies[stand, call]) for stand in stands for call in calls)


class SafeAndBeaten(unittest.TestCase):
    def test_all_cases(self):
        seen = set()
        for town, helpers, told in cases():
            plain = plain_of(town, helpers, told)
            safe = [stand for stand in sorted(plain) if plain[stand] is None]
            beaten = [(stand, plain[stand]) for stand in sorted(plain) if plain[stand] is not None]
            self.assertEqual(safe_stands(town, helpers, **told), safe, (town, helpers, told))
            self.assertEqual(ranks(town, helpers, **told), beaten, (town, helpers, told))
            seen.add((told["rule"], bool(safe), bool(beaten)))
        # All three of: some safe and some beaten, all safe, all beaten.
        self.assertEqual(seen, {(rule, *kind) for rule in RULES for kind in [(True, True), (True, False), (False, True)]})

    def test_on_a_line(self):
        told = {"rule": "one", "reach": 1, "calls": [0, 1, 2, 3]}
        self.assertEqual(safe_stands(LINE, 2, **told), [(0, 2), (0, 3), (1, 2), (1, 3)])
        self.assertEqual([rank for _, rank in ranks(LINE, 2, **told)], [1] * 6)

    def test_ranks_above_1(self):
        told = {"rule": "one", "reach": 1, "calls": [0, 1, 2]}
        self.assertEqual(ranks(PATH, 1, **told), [((0,), 1), ((1,), 2), ((2,), 1)])
        self.assertEqual(safe_stands(PATH, 1, **told), [])

    def test_each_rank_up_to_the_greatest_is_that_of_some_stand(self):
        greatest = 0
        for town, helpers, told in cases():
            found = sorted({rank for _, rank in ranks(town, helpers, **told)})
            self.assertEqual(found, list(range(1, len(found) + 1)))
            greatest = max(greatest, len(found))
        self.assertGreaterEqual(greatest, 4)

    def test_one_called_place_is_answered_for_ever_by_whoever_reaches_it(self):
        self.assertEqual(safe_stands(TOWN, 1, rule="one", reach=3, calls=[1]), [(0,), (1,), (2,)])
        self.assertEqual(ranks(TOWN, 1, rule="all", reach=3, calls=[1]), [((3,), 1)])
        self.assertEqual(safe_stands(TOWN, 1, rule="one", reach=0, calls=[3]), [(3,)])

    def test_reach_60_in_one_piece_makes_all_safe(self):
        for rule, helpers in product(RULES, (1, 2, 3)):
            told = {"rule": rule, "reach": 60, "calls": [0, 1, 2, 3]}
            self.assertEqual(safe_stands(TOWN, helpers, **told), plain_stands(TOWN, helpers))
            self.assertEqual(ranks(TOWN, helpers, **told), [])

    def test_several_pieces(self):
        for rule in RULES:
            told = {"rule": rule, "reach": 60, "calls": [0, 1, 2, 3, 4]}
            self.assertEqual(safe_stands(TWO_PIECES, 1, **told), [])
            expected = [(a, b) for a, b in plain_stands(TWO_PIECES, 2) if (a in (2, 4)) != (b in (2, 4))]
            self.assertEqual(safe_stands(TWO_PIECES, 2, **told), expected)

    def test_the_greatest_town(self):
        for rule, reach in product(RULES, (0, 4, 6, 60)):
            told = {"rule": rule, "reach": reach, "calls": list(range(7))}
            plain = plain_of(GREAT, 3, told)
            self.assertEqual(safe_stands(GREAT, 3, **told), [stand for stand in plain if plain[stand] is None])
            self.assertEqual(dict(ranks(GREAT, 3, **told)), {s: n for s, n in plain.items() if n is not None})


class BestAnswers(unittest.TestCase):
    def test_all_cases(self):
        kinds = set()
        for town, helpers, told in cases(reaches=(0, 1, 3, 5)):
            plain = plain_of(town, helpers, told)
            replies = plain_replies(town, helpers, told["rule"], told["reach"])
            for stand in list(plain)[::3 if helpers < 3 else 13]:
                for call in told["calls"]:
                    best = best_answer(town, stand, call, **told)
                    self.assertEqual(best, plain_best(replies, plain, stand, call), (town, stand, call, told))
                    kinds.add(self.kind(replies[stand, call], plain, best))
        self.assertLessEqual({"none", "safe, not the shortest", "beaten, not the shortest", "first of several"}, kinds)

    def kind(self, found, plain, best):
        if best is None:
            return "none"
        if best[1] > min(length for _, length in found):
            return "safe, not the shortest" if plain[best[0]] is None else "beaten, not the shortest"
        same = [answer for answer, length in found if (length, plain[answer]) == (best[1], plain[best[0]])]
        return "first of several" if len(same) > 1 else "one"

    def test_among_safe_ones_the_shortest_then_the_first(self):
        told = {"rule": "one", "reach": 4, "calls": [0, 1, 2, 3]}
        # The answer (0, 3) is shorter, of the length 2, but beaten.
        self.assertEqual(best_answer(FAN, (0, 2), 3, **told), ((2, 3), 4))
        self.assertEqual(best_answer(FAN, (2, 3), 0, **told), ((0, 2), 4))
        # Both answers are safe: the later one is shorter; both are as short.
        self.assertEqual(best_answer(FAN, (0, 1), 2, **told), ((1, 2), 2))
        self.assertEqual(best_answer(FAN, (0, 3), 2, **told), ((0, 2), 2))

    def test_among_beaten_ones_the_greatest_rank_then_the_shortest_then_the_first(self):
        told = {"rule": "one", "reach": 2, "calls": [0, 1, 2, 3, 4]}
        self.assertEqual(best_answer(HUB, (0, 4), 3, **told), ((3, 4), 2))
        self.assertEqual(best_answer(HUB, (2, 3), 4, **told), ((3, 4), 1))
        self.assertEqual(best_answer(HUB, (1, 2), 4, **told), ((1, 4), 1))
        told = {"rule": "all", "reach": 2, "calls": [0, 1, 2, 3]}
        self.assertEqual(best_answer(ISLE, (1, 2), 1, **told), ((0, 1), 2))
        self.assertEqual(best_answer(ISLE, (2, 3), 0, **told), ((0, 2), 1))
        self.assertEqual(best_answer(ISLE, (0, 2), 3, **told), ((2, 3), 1))
        town = (4, [(0, 1, 2), (0, 3, 2)])
        self.assertEqual(best_answer(town, (1, 3), 0, rule="one", reach=3, calls=[0, 1, 2]), ((0, 1), 2))

    def test_none(self):
        for rule in RULES:
            self.assertIsNone(best_answer(LINE, (0, 0), 3, rule=rule, reach=2, calls=[0, 3]))
            self.assertIsNone(best_answer(TWO_PIECES, (0, 1, 3), 4, rule=rule, reach=60, calls=[4]))

    def test_the_calls_that_may_come_matter(self):
        self.assertEqual(best_answer(FAN, (0, 2), 3, rule="one", reach=4, calls=[0, 1, 2, 3]), ((2, 3), 4))
        self.assertEqual(best_answer(FAN, (0, 2), 3, rule="one", reach=4, calls=[0, 2, 3]), ((0, 3), 2))


class Rules(unittest.TestCase):
    def test_all_cases(self):
        empty = set()
        for town, helpers, told in cases(reaches=(0, 1, 3, 60)):
            plain = plain_of(town, helpers, told)
            replies = plain_replies(town, helpers, told["rule"], told["reach"])
            safe = safe_rule(town, helpers, **told)
            calling = calling_rule(town, helpers, **told)
            self.assertEqual(safe, [
                (stand, call, plain_best(replies, plain, stand, call)[0])
                for stand in plain if plain[stand] is None for call in told["calls"]
            ])
            self.assertEqual(calling, [
                (stand, rank, next(call for call in told["calls"] if all(
                    (plain[answer] or rank) < rank for answer, _ in replies[stand, call])))
                for stand, rank in plain.items() if rank is not None
            ])
            self.assertEqual(safe, sorted(safe))
            self.assertEqual(calling, sorted(calling))
            empty |= {"safe"} if not safe else set()
            empty |= {"calling"} if not calling else set()
        self.assertEqual(empty, {"safe", "calling"})

    def test_on_a_path(self):
        told = {"rule": "one", "reach": 1, "calls": [0, 1, 2]}
        self.assertEqual(safe_rule(PATH, 1, **told), [])
        self.assertEqual(calling_rule(PATH, 1, **told), [((0,), 1, 2), ((1,), 2, 0), ((2,), 1, 0)])
        told = {"rule": "one", "reach": 2, "calls": [0, 2]}
        self.assertEqual(safe_rule(PATH, 1, **told), [
            ((0,), 0, (0,)), ((0,), 2, (2,)), ((1,), 0, (0,)), ((1,), 2, (2,)), ((2,), 0, (0,)), ((2,), 2, (2,)),
        ])
        self.assertEqual(calling_rule(PATH, 1, **told), [])

    def test_they_show_each_stand_by_just_one_of_the_two(self):
        for town, helpers, told in cases(reaches=(0, 2, 5)):
            safe = safe_stands(town, helpers, **told)
            calling = calling_rule(town, helpers, **told)
            self.assertTrue(is_closed(town, safe, **told))
            self.assertTrue(is_beating(town, calling, **told))
            self.assertEqual(sorted(safe + [row[0] for row in calling]), plain_stands(town, helpers))

    def test_the_greatest_town(self):
        for rule, reach in product(RULES, (4, 6)):
            told = {"rule": rule, "reach": reach, "calls": list(range(7))}
            plain = plain_of(GREAT, 3, told)
            replies = plain_replies(GREAT, 3, rule, reach)
            for stand, call, answer in safe_rule(GREAT, 3, **told):
                self.assertEqual(answer, plain_best(replies, plain, stand, call)[0])
            self.assertTrue(is_closed(GREAT, safe_stands(GREAT, 3, **told), **told))
            self.assertTrue(is_beating(GREAT, calling_rule(GREAT, 3, **told), **told))


class Closed(unittest.TestCase):
    TOLD = {"rule": "one", "reach": 1, "calls": [0, 1, 2, 3]}
    SAFE = [(0, 2), (0, 3), (1, 2), (1, 3)]

    def test_every_list_of_stands(self):
        for rule, reach, calls in product(RULES, (0, 1, 2), ([0, 1, 2], [0, 2], [1])):
            told = {"rule": rule, "reach": reach, "calls": calls}
            for helpers in (1, 2):
                closed = []
                for stands in [[], *parts_of(plain_stands(PATH, helpers))]:
                    expected = is_plainly_closed(PATH, stands, **told)
                    self.assertIs(is_closed(PATH, stands, **told), expected, (stands, told))
                    self.assertIs(is_closed(PATH, stands[::-1] + stands[:1], **told), expected)
                    closed += stands if expected else []
                    for stand in plain_stands(PATH, helpers):
                        shown = shows_safe(PATH, stand, stands, **told)
                        self.assertIs(shown, expected and stand in stands)
                # All closed lists together are the safe stands.
                self.assertEqual(sorted(set(closed)), safe_stands(PATH, helpers, **told))

    def test_one_stand_less_or_more(self):
        self.assertIs(is_closed(LINE, self.SAFE, **self.TOLD), True)
        for stand in self.SAFE:
            less = [other for other in self.SAFE if other != stand]
            self.assertIs(is_closed(LINE, less, **self.TOLD), is_plainly_closed(LINE, less, **self.TOLD))
        for stand in plain_stands(LINE, 2):
            self.assertIs(is_closed(LINE, [*self.SAFE, stand], **self.TOLD), stand in self.SAFE)
        self.assertIs(is_closed(LINE, [(0, 2), (1, 3)], rule="one", reach=1, calls=[0, 3]), False)
        self.assertIs(is_closed(LINE, [(0, 2), (0, 3)], rule="one", reach=1, calls=[0, 3]), True)

    def test_out_of_order_stands_twice_and_the_empty_list(self):
        self.assertIs(is_closed(LINE, self.SAFE[::-1], **self.TOLD), True)
        self.assertIs(is_closed(LINE, self.SAFE * 3, **self.TOLD), True)
        self.assertIs(is_closed(LINE, [(0, 2)] * 4, **self.TOLD), False)
        for rule in RULES:
            self.assertIs(is_closed(LINE, [], rule=rule, reach=0, calls=[0, 1, 2, 3]), True)

    def test_the_rule_the_reach_and_the_calls_matter(self):
        told = {"rule": "one", "reach": 1, "calls": [0, 1]}
        self.assertIs(is_closed(PATH, [(0,), (1,)], **told), True)
        self.assertIs(is_closed(PATH, [(0,), (1,)], **{**told, "reach": 0}), False)
        self.assertIs(is_closed(PATH, [(0,), (1,)], **{**told, "calls": [0, 1, 2]}), False)
        self.assertIs(is_closed(LINE, [(0, 2), (1, 3)], rule="one", reach=1, calls=[0, 1, 2, 3]), False)
        self.assertIs(is_closed(LINE, [(0, 2), (1, 3)], rule="all", reach=1, calls=[0, 1, 2, 3]), True)

    def test_shows_safe(self):
        for stand in plain_stands(LINE, 2):
            self.assertIs(shows_safe(LINE, stand, self.SAFE, **self.TOLD), stand in self.SAFE)
            self.assertIs(shows_safe(LINE, stand, [], **self.TOLD), False)
            self.assertIs(shows_safe(LINE, stand, [*self.SAFE, (0, 0)], **self.TOLD), False)
            self.assertIs(shows_safe(LINE, stand, self.SAFE[::-1] * 2, **self.TOLD), stand in self.SAFE)
        self.assertIs(shows_safe(LINE, (0,), [(0, 2)], rule="one", reach=60, calls=[0]), False)


class Beating(unittest.TestCase):
    TOLD = {"rule": "one", "reach": 1, "calls": [0, 1, 2]}
    ROWS = [((0,), 1, 2), ((1,), 2, 0), ((2,), 1, 0)]

    def check(self, rows, expected, told=None):
        self.assertIs(is_beating(PATH, rows, **(told or self.TOLD)), expected, rows)

    def test_every_list_of_small_rows(self):
        row_of = list(product(plain_stands(PATH, 1), (-1, 0, 1, 2, 3), (0, 1, 2)))
        replies = {rule: plain_replies(PATH, 1, rule, 1) for rule in RULES}
        for rule, calls in product(RULES, ([0, 1, 2], [0, 2])):
            told = {"rule": rule, "reach": 1, "calls": calls}
            for rows in [[], *[[row] for row in row_of], *map(list, product(row_of, repeat=2))]:
                listed = {stand: rank for stand, rank, _ in rows}
                expected = len(listed) == len(rows) and all(
                    rank >= 1 and call in calls
                    and all(listed.get(answer, rank) < rank for answer, _ in replies[rule][stand, call])
                    for stand, rank, call in rows
                )
                self.check(rows, expected, told)

    def test_out_of_order(self):
        self.check(self.ROWS, True)
        self.check(self.ROWS[::-1], True)
        self.check([self.ROWS[1], self.ROWS[0], self.ROWS[2]], True)

    def test_the_empty_list(self):
        self.check([], True)

    def test_a_stand_twice(self):
        for row in self.ROWS:
            self.check([*self.ROWS, row], False)
        self.check([*self.ROWS, ((1,), 3, 0)], False)
        self.check([*self.ROWS, ((0,), 5, 2)], False)

    def test_a_row_left_out(self):
        self.check(self.ROWS[1:], False)
        # The row of (2,) is wanted by no other one.
        self.check(self.ROWS[:2], True)
        self.check([self.ROWS[0], self.ROWS[2]], True)

    def test_ranks_of_0_or_below_just_too_small_and_greater(self):
        for rank in (0, -1, -60):
            self.check([((0,), rank, 2)], False)
        self.check([((0,), 1, 2), ((1,), 1, 0)], False)
        self.check([((0,), 2, 2), ((1,), 2, 0)], False)
        self.check([((0,), 2, 2), ((1,), 3, 0)], True)
        self.check([((0,), 70, 2), ((1,), 700, 0)], True)

    def test_a_call_that_is_not_told_or_not_the_one(self):
        self.check(self.ROWS, False, {"rule": "one", "reach": 1, "calls": [0, 1]})
        self.check(self.ROWS, False, {"rule": "one", "reach": 1, "calls": [2]})
        self.check([((0,), 1, 1)], False)
        self.check([((0,), 1, 0)], False)

    def test_safe_stands_cannot_be_beaten(self):
        for town, helpers, told in cases(towns=[TOWN, LINE, TWO_PIECES], helpers=(1, 2), reaches=(1, 3)):
            rows = calling_rule(town, helpers, **told)
            for stand in safe_stands(town, helpers, **told):
                for call in told["calls"]:
                    self.assertIs(is_beating(town, [*rows, (stand, 99, call)], **told), False)

    def test_the_calling_rule_with_one_rank_less_one(self):
        for town, helpers, told in cases(towns=[TOWN, LINE, RING], helpers=(1, 2), reaches=(1, 2)):
            rows = calling_rule(town, helpers, **told)
            for at, (stand, rank, call) in enumerate(rows):
                less = [*rows[:at], (stand, rank - 1, call), *rows[at + 1:]]
                self.assertIs(is_beating(town, less, **told), False)


class Play(unittest.TestCase):
    def test_beating_rows(self):
        longest = 0
        for town, helpers, told in cases(reaches=(0, 1, 2, 5)):
            plain = plain_of(town, helpers, told)
            calling = {stand: call for stand, _, call in calling_rule(town, helpers, **told)}
            for stand in list(plain)[::4 if helpers < 3 else 9]:
                row = beating_row(town, stand, **told)
                if plain[stand] is None:
                    self.assertIsNone(row)
                    continue
                self.assertEqual(len(row), plain[stand])
                stands = gone(town, stand, row, **told)
                self.assertEqual(len(stands), len(row))
                self.assertEqual([calling[here] for here in stands], row)
                longest = max(longest, len(row))
        self.assertGreaterEqual(longest, 4)

    def test_the_row_of_the_document(self):
        told = {"rule": "one", "reach": 1, "calls": [0, 1, 2]}
        self.assertEqual(beating_row(PATH, (1,), **told), [0, 2])
        self.assertEqual(beating_row(PATH, (2,), **told), [0])
        self.assertIsNone(beating_row(PATH, (1,), rule="one", reach=2, calls=[0, 1, 2]))

    def test_gone_by_every_short_row(self):
        for rule, reach, helpers in product(RULES, (1, 3), (1, 2)):
            told = {"rule": rule, "reach": reach, "calls": [0, 1, 3]}
            plain = plain_of(TOWN, helpers, told)
            replies = plain_replies(TOWN, helpers, rule, reach)
            for stand in list(plain)[::3]:
                for row in product([0, 1, 3], repeat=3):
                    expected = [stand]
                    for call in row:
                        best = plain_best(replies, plain, expected[-1], call)
                        if best is None:
                            break
                        expected.append(best[0])
                    self.assertEqual(gone(TOWN, stand, list(row), **told), expected)

    def test_gone_without_calls_and_to_the_end_and_not_to_it(self):
        told = {"rule": "one", "reach": 1, "calls": [0, 1, 2]}
        self.assertEqual(gone(PATH, (1,), [], **told), [(1,)])
        self.assertEqual(gone(PATH, (1,), [0, 1, 2, 1], **told), [(1,), (0,), (1,), (2,), (1,)])
        self.assertEqual(gone(PATH, (1,), [0, 2, 1], **told), [(1,), (0,)])
        self.assertEqual(gone(PATH, (0,), [2, 0, 0], **told), [(0,)])

    def test_long_rows_from_safe_stands(self):
        for rule in RULES:
            told = {"rule": rule, "reach": 1, "calls": [0, 1, 2, 3]}
            row = [0, 3, 1, 2, 2, 0, 3] * 20
            stands = gone(LINE, (0, 2), row, **told)
            self.assertEqual(len(stands), len(row) + 1)
            self.assertLessEqual(set(stands), set(safe_stands(LINE, 2, **told)))

    def test_helpers_answer_so_many_calls_less_one_whatever_comes(self):
        told = {"rule": "one", "reach": 2, "calls": [0, 1, 2, 3]}
        town = (4, [(0, 1, 2), (1, 2, 2), (2, 3, 2)])
        for stand, rank in ranks(town, 1, **told):
            for row in product(told["calls"], repeat=rank - 1):
                self.assertEqual(len(gone(town, stand, list(row), **told)), rank)


class More(unittest.TestCase):
    """Point 20: what makes stands safe, or ranks greater."""

    def no_worse(self, town, helpers, told, other_town, other_told):
        before = plain_of(town, helpers, told)
        after = dict(ranks(other_town, helpers, **other_told))
        self.assertLessEqual(set(safe_stands(town, helpers, **told)), set(safe_stands(other_town, helpers, **other_told)))
        for stand, rank in after.items():
            self.assertIsNotNone(before[stand])
            self.assertGreaterEqual(rank, before[stand])

    def test_a_greater_reach(self):
        for town, helpers, told in cases(towns=[TOWN, LINE, TWO_PIECES, RING], helpers=(1, 2), reaches=(0, 1, 2, 4)):
            self.no_worse(town, helpers, told, town, {**told, "reach": told["reach"] + 1})

    def test_fewer_called_places(self):
        for town, helpers, told in cases(towns=[TOWN, LINE, TWO_PIECES, RING], helpers=(1, 2), reaches=(0, 1, 3)):
            for at in range(len(told["calls"]) if len(told["calls"]) > 1 else 0):
                calls = told["calls"][:at] + told["calls"][at + 1:]
                self.no_worse(town, helpers, told, town, {**told, "calls": calls})

    def test_a_road_put_in(self):
        for town, road in [(TOWN, (0, 3, 1)), (TOWN, (1, 3, 2)), (LINE, (0, 3, 1)), (TWO_PIECES, (0, 2, 2))]:
            for _, helpers, told in cases(towns=[town], helpers=(1, 2), reaches=(0, 1, 2, 3)):
                self.no_worse(town, helpers, told, with_road(town, road), told)

    def test_the_other_rule(self):
        for town, helpers, told in cases():
            if told["rule"] == "one":
                self.no_worse(town, helpers, told, town, {**told, "rule": "all"})

    def test_the_rules_differ(self):
        told = {"reach": 1, "calls": [0, 1, 2, 3, 4, 5]}
        town = (6, [(0, 1, 1), (0, 5, 1), (1, 2, 1), (2, 3, 1), (3, 4, 1), (4, 5, 1)])
        differing = [
            helpers for helpers in (1, 2, 3)
            if safe_stands(town, helpers, rule="one", **told) != safe_stands(town, helpers, rule="all", **told)
        ]
        self.assertNotEqual(differing, [])

    def test_a_helper_more(self):
        for town, helpers, told in cases(towns=[TOWN, LINE, TWO_PIECES, RING], helpers=(1, 2), reaches=(0, 1, 3, 5)):
            more = set(safe_stands(town, helpers + 1, **told))
            for stand in safe_stands(town, helpers, **told):
                for place in range(town[0]):
                    self.assertIn(tuple(sorted((*stand, place))), more)


if __name__ == "__main__":
    unittest.main()
