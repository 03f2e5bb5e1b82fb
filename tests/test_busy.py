"""Points 44 to 48: states of helpers who are busy, their answers, safe states, and the greatest rest."""

import unittest
from itertools import combinations_with_replacement, product
from random import Random

from evernear.busy import (
    busy_answers, can_keep_busy, is_closed_busy, most_rest, rested, safe_states, safe_when_rested,
)
from evernear.least import can_keep
from evernear.safe import safe_stands
from tests.samples import LINE, TOWN, TRIANGLE, TWO_PIECES, parts_of, plain_stands, plain_ways, spread_town

PATH = (3, [(0, 1, 1), (1, 2, 1)])
PAIR = (2, [(0, 1, 2)])
ALONE = (1, [])
APART = (3, [(0, 1, 1)])
FIVE = (5, [(0, 1, 2), (0, 4, 1), (1, 2, 2), (2, 3, 1), (3, 4, 3)])
SEVEN = spread_town(5, 7, 10)
RESTS = (0, 1, 2, 3)


def plain_states(town, helpers, rest):
    return sorted(combinations_with_replacement(product(range(town[0]), range(rest + 1)), helpers))


def plain_busy(town, state, call, reach, rest):
    """The answers, each helper being asked in turn whether he can go."""
    between = plain_ways(town)
    later = [(place, left - 1 if left else 0) for place, left in state]
    if any(place == call for place, _ in state):
        return [tuple(sorted(later))]
    found = set()
    for at, (place, left) in enumerate(state):
        step = between[place, call]
        if left == 0 and step is not None and step <= reach:
            behind = list(later)
            behind[at] = (call, rest)
            found.add(tuple(sorted(behind)))
    return sorted(found)


def plain_safe(town, helpers, calls, reach, rest):
    """What is left if states that have no answer in the list to some call are taken out, again and again."""
    replies = {
        state: [plain_busy(town, state, call, reach, rest) for call in calls]
        for state in plain_states(town, helpers, rest)
    }
    kept = set(replies)
    while True:
        lost = {state for state in kept if any(not kept.intersection(found) for found in replies[state])}
        if not lost:
            return sorted(kept)
        kept -= lost


def cases():
    for town, helpers in product([TOWN, LINE, PATH, PAIR, ALONE, APART, TRIANGLE, FIVE], (1, 2)):
        calls = list(range(town[0]))
        for called, reach, rest in product([calls, calls[:2], calls[-1:]], (0, 1, 2, 4, 60), RESTS):
            yield town, helpers, called, reach, rest
    for reach, rest in product((1, 2, 60), RESTS):
        yield LINE, 3, [0, 1, 2, 3], reach, rest
        yield PATH, 3, [0, 2], reach, rest
        yield TWO_PIECES, 2, [0, 3], reach, rest


class Answers(unittest.TestCase):
    def test_rested(self):
        self.assertEqual(rested((2,)), ((2, 0),))
        self.assertEqual(rested((0, 0, 3)), ((0, 0), (0, 0), (3, 0)))
        for helpers in (1, 2, 3):
            for stand in plain_stands(LINE, helpers):
                self.assertIn(rested(stand), plain_states(LINE, helpers, 0))

    def told(self, state, call, rest, reach=60, town=LINE):
        return busy_answers(town, state, call, reach=reach, rest=rest)

    def test_nobody_goes_if_somebody_is_there(self):
        self.assertEqual(self.told(((1, 0), (2, 0)), 1, 2), [((1, 0), (2, 0))])
        self.assertEqual(self.told(((1, 2), (2, 0)), 1, 2), [((1, 1), (2, 0))])
        self.assertEqual(self.told(((1, 0), (2, 3)), 1, 3), [((1, 0), (2, 2))])
        self.assertEqual(self.told(((0, 1), (0, 3), (2, 1)), 0, 3), [((0, 0), (0, 2), (2, 0))])
        # The place is free of a free helper, but not of helpers: the free one beside it stays.
        self.assertEqual(self.told(((0, 0), (1, 1)), 1, 1), [((0, 0), (1, 0))])
        self.assertEqual(self.told(((1, 3),), 1, 3, reach=0), [((1, 2),)])

    def test_who_goes_is_busy_for_the_whole_rest(self):
        self.assertEqual(self.told(((0, 0), (3, 2)), 1, 3), [((1, 3), (3, 1))])
        self.assertEqual(self.told(((0, 0), (3, 2)), 1, 2), [((1, 2), (3, 1))])
        self.assertEqual(self.told(((0, 0),), 1, 0), [((1, 0),)])

    def test_one_answer_for_each_state_that_comes(self):
        self.assertEqual(self.told(((0, 0), (0, 0)), 1, 1), [((0, 0), (1, 1))])
        self.assertEqual(self.told(((0, 0), (0, 0), (3, 0)), 1, 1), [((0, 0), (0, 0), (1, 1)), ((0, 0), (1, 1), (3, 0))])
        self.assertEqual(self.told(((0, 0), (2, 0)), 1, 0), [((0, 0), (1, 0)), ((1, 0), (2, 0))])

    def test_several_at_one_place_with_different_numbers_left(self):
        self.assertEqual(self.told(((0, 0), (0, 2), (3, 1)), 1, 2), [((0, 1), (1, 2), (3, 0))])
        self.assertEqual(self.told(((0, 0), (0, 1), (0, 2)), 2, 3), [((0, 0), (0, 1), (2, 3))])

    def test_no_free_helper_and_none_within_the_reach(self):
        self.assertEqual(self.told(((0, 1), (2, 3)), 1, 3), [])
        self.assertEqual(self.told(((0, 0), (3, 1)), 2, 3, reach=1), [])
        self.assertEqual(self.told(((0, 0), (3, 0)), 2, 3, reach=1), [((0, 0), (2, 3))])
        self.assertEqual(self.told(((0, 0),), 2, 0, town=APART), [])
        self.assertEqual(self.told(((2, 0),), 2, 0, town=APART), [((2, 0),)])

    def test_all_states(self):
        for town, helpers, rest in product([TOWN, LINE, APART], (1, 2), RESTS):
            for state, call, reach in product(plain_states(town, helpers, rest), range(town[0]), (0, 1, 3, 60)):
                found = busy_answers(town, state, call, reach=reach, rest=rest)
                self.assertEqual(found, plain_busy(town, state, call, reach, rest))

    def test_three_helpers_at_seven_places(self):
        rng = Random(3)
        states = plain_states(SEVEN, 3, 3)
        for _ in range(800):
            state, call, reach = rng.choice(states), rng.randrange(7), rng.choice((2, 5, 60))
            self.assertEqual(busy_answers(SEVEN, state, call, reach=reach, rest=3), plain_busy(SEVEN, state, call, reach, 3))


class SafeStates(unittest.TestCase):
    def test_all_cases(self):
        seen = set()
        for town, helpers, calls, reach, rest in cases():
            plain = plain_safe(town, helpers, calls, reach, rest)
            told = {"reach": reach, "rest": rest}
            self.assertEqual(safe_states(town, helpers, calls, **told), plain, (town, helpers, calls, told))
            stands = [stand for stand in plain_stands(town, helpers) if tuple((place, 0) for place in stand) in plain]
            self.assertEqual(safe_when_rested(town, helpers, calls, **told), stands)
            self.assertIs(can_keep_busy(town, helpers, calls, **told), stands != [])
            seen.add((rest, plain == [], len(plain) == len(plain_states(town, helpers, rest))))
        # With each rest none, some and all are safe.
        self.assertEqual(seen, {(rest, *kind) for rest in RESTS for kind in [(True, False), (False, False), (False, True)]})

    def test_three_helpers_at_seven_places(self):
        for calls, reach in [(list(range(7)), 60), ([0, 1, 5], 9)]:
            plain = plain_safe(SEVEN, 3, calls, reach, 3)
            self.assertEqual(safe_states(SEVEN, 3, calls, reach=reach, rest=3), plain)
        self.assertNotEqual(plain, [])

    def test_known_ones(self):
        # Two helpers, two places: both calls have one there, or one comes there in time.
        self.assertEqual(
            safe_states(PAIR, 2, [0, 1], reach=2, rest=1),
            [((0, 0), (0, 0)), ((0, 0), (0, 1)), ((0, 0), (1, 0)), ((0, 0), (1, 1)), ((0, 1), (1, 0)), ((0, 1), (1, 1)),
             ((1, 0), (1, 0)), ((1, 0), (1, 1))],
        )
        self.assertEqual(safe_states(PAIR, 1, [0, 1], reach=2, rest=1), [])
        self.assertEqual(safe_states(PAIR, 1, [0, 1], reach=2, rest=0), [((0, 0),), ((1, 0),)])
        self.assertEqual(safe_states(PAIR, 1, [1], reach=0, rest=2), [((1, 0),), ((1, 1),), ((1, 2),)])


class ClosedLists(unittest.TestCase):
    TOLD = {"reach": 2, "rest": 1}
    SAFE = safe_states(PAIR, 2, [0, 1], reach=2, rest=1)

    def closed(self, states, calls=(0, 1), town=PAIR, **told):
        found = is_closed_busy(town, states, list(calls), **{**self.TOLD, **told})
        self.assertIs(found.__class__, bool)
        return found

    def test_safe_states(self):
        self.assertIs(self.closed(self.SAFE), True)
        self.assertIs(self.closed(self.SAFE[::-1]), True)
        self.assertIs(self.closed([*self.SAFE, *self.SAFE[2:4], self.SAFE[0]]), True)

    def test_the_empty_list(self):
        self.assertIs(self.closed([]), True)

    def test_one_state_less_or_more(self):
        settled = [((0, 0), (1, 0)), ((0, 0), (1, 1)), ((0, 1), (1, 0)), ((0, 1), (1, 1))]
        self.assertIs(self.closed(settled), True)
        self.assertIs(self.closed(settled[:1]), True)
        self.assertIs(self.closed(settled[1:]), False)
        self.assertIs(self.closed([settled[3]]), False)
        self.assertIs(self.closed([settled[3], settled[0]]), True)
        self.assertIs(self.closed([*settled, ((0, 1), (0, 1))]), False)
        self.assertIs(self.closed([((0, 0), (0, 0))]), False)
        self.assertIs(self.closed([((0, 0), (0, 0))], calls=[0]), True)
        self.assertIs(self.closed([((0, 0), (0, 0)), ((0, 0), (1, 1)), ((0, 0), (1, 0))]), True)

    def test_all_cases(self):
        rng = Random(5)
        seen = []
        for town, helpers, calls, reach, rest in cases():
            safe = plain_safe(town, helpers, calls, reach, rest)
            told = {"town": town, "calls": calls, "reach": reach, "rest": rest}
            self.assertIs(self.closed(safe, **told), True)
            for states in ([*safe, rng.choice(plain_states(town, helpers, rest))], safe[1:], safe[:-1], safe[::2]):
                rng.shuffle(states)
                plain = all(
                    any(answer in states for answer in plain_busy(town, state, call, reach, rest))
                    for state in states for call in calls
                )
                self.assertIs(self.closed(states, **told), plain)
                seen.append(plain)
        self.assertGreater(seen.count(True), 100)
        self.assertGreater(seen.count(False), 100)

    def test_each_closed_list_is_safe(self):
        # Point 46, by all lists of the states of a small town.
        for calls, rest in product([[0], [0, 1]], (0, 1)):
            safe = safe_states(PAIR, 1, calls, reach=2, rest=rest)
            together = set()
            for states in parts_of(plain_states(PAIR, 1, rest)):
                if self.closed(states, calls=calls, rest=rest):
                    together.update(states)
            self.assertEqual(sorted(together), safe)


class WhatIsLess(unittest.TestCase):
    def test_rest_0_is_the_rule_one(self):
        for town, helpers, calls, reach, rest in cases():
            if rest == 0:
                safe = safe_stands(town, helpers, rule="one", reach=reach, calls=calls)
                self.assertEqual(safe_when_rested(town, helpers, calls, reach=reach, rest=0), safe)
                self.assertIs(
                    can_keep_busy(town, helpers, calls, reach=reach, rest=0),
                    can_keep(town, helpers, calls, rule="one", reach=reach),
                )

    def test_lesser_rest_and_greater_reach(self):
        for town, helpers, calls, reach, rest in cases():
            safe = set(safe_when_rested(town, helpers, calls, reach=reach, rest=rest))
            if rest:
                self.assertLessEqual(safe, set(safe_when_rested(town, helpers, calls, reach=reach, rest=rest - 1)))
            self.assertLessEqual(safe, set(safe_when_rested(town, helpers, calls, reach=reach + 1, rest=rest)))

    def test_less_calls_left(self):
        for town, helpers, calls, reach, rest in cases():
            safe = safe_states(town, helpers, calls, reach=reach, rest=rest)
            for state in safe:
                for at, (place, left) in enumerate(state):
                    if left:
                        less = tuple(sorted([*state[:at], (place, left - 1), *state[at + 1:]]))
                        self.assertIn(less, safe)

    def test_none_are_safe_with_many_calls_and_few_helpers(self):
        for town, helpers, rest in product([LINE, TOWN, TRIANGLE, FIVE], (1, 2, 3), (1, 2, 3)):
            for calls in parts_of(list(range(town[0]))):
                if len(calls) > helpers and helpers <= rest:
                    self.assertEqual(safe_states(town, helpers, calls, reach=60, rest=rest), [])
        # With one helper more than that, some are; and with as many calls as helpers, too.
        self.assertNotEqual(safe_states(LINE, 3, [0, 1, 2, 3], reach=60, rest=2), [])
        self.assertNotEqual(safe_states(LINE, 2, [0, 3], reach=60, rest=3), [])


class MostRest(unittest.TestCase):
    def test_each_one(self):
        town = (5, [(0, 1, 1), (1, 2, 1), (2, 3, 1), (3, 4, 1)])
        calls = [0, 1, 2, 3, 4]
        found = {most_rest(town, helpers, calls, reach=reach) for helpers, reach in product((1, 2, 3), (0, 1, 2, 3, 4, 60))}
        self.assertEqual(found, {None, 0, 1, 2})
        self.assertEqual(most_rest(town, 3, calls, reach=60), 2)
        self.assertEqual(most_rest(town, 2, calls, reach=60), 1)
        self.assertEqual(most_rest(town, 1, calls, reach=60), 0)
        self.assertEqual(most_rest(town, 1, [0], reach=0), 3)
        self.assertEqual(most_rest(town, 2, [0, 4], reach=0), 3)
        self.assertIsNone(most_rest(town, 1, [0, 4], reach=3))

    def test_all_cases(self):
        for town, helpers, calls, reach, rest in cases():
            if rest == 0:
                kept = [some for some in RESTS if plain_keeps(town, helpers, calls, reach, some)]
                self.assertEqual(most_rest(town, helpers, calls, reach=reach), max(kept, default=None))

    def test_seven_places(self):
        self.assertEqual(most_rest(SEVEN, 3, list(range(7)), reach=60), 2)
        self.assertEqual(most_rest(SEVEN, 3, [0, 3, 6], reach=60), 3)


def plain_keeps(town, helpers, calls, reach, rest):
    return any(all(left == 0 for _, left in state) for state in plain_safe(town, helpers, calls, reach, rest))


if __name__ == "__main__":
    unittest.main()
