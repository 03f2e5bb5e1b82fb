"""Points 53 to 58: the making of houses, deeds, undo and redo, lists of deeds, journals, and what safe houses answer."""

import unittest
from copy import deepcopy
from random import Random

from evernear.errors import (
    BadEntry, BadPlace, BadRoad, BadSize, BadStand, NearError, NoAnswer, NoRoad, NotAnswer, NothingToRedo, NothingToUndo,
)
from evernear.house import House, replay
from tests.raising import Raising
from tests.samples import (
    FULL, LINE, NO_WHOLE_NUMBERS, TOWN, TRIANGLE, TWO_PIECES, plain_best, plain_ranks, plain_replies, plain_stands,
    spread_town,
)

ALONE = (1, [])
PATH = (3, [(0, 1, 1), (1, 2, 1)])
RING = (5, [(0, 1, 1), (0, 4, 1), (1, 2, 1), (2, 3, 1), (3, 4, 1)])
SEVEN = spread_town(5, 7, 10)


class Anything:
    """It is equal to each value."""

    def __eq__(self, other):
        return True

    def __hash__(self):
        return hash(1)


NO_PLACES = [*NO_WHOLE_NUMBERS, Anything(), -1, 4, 10 ** 30, (0,), [0], {0}, {0: 0}, "0", 2.0]


class PlainHouse:
    """Holds the deeds in force, and works all out anew from the making whenever something is asked."""

    def __init__(self, town, stand, rule, reach):
        self.made_for = (town, stand)
        self.rule, self.reach = rule, reach
        self.in_force, self.undone, self.journal = [], [], []

    def state(self):
        (places, roads), stand = self.made_for
        roads, calls, way = list(roads), [], 0
        for deed in self.in_force:
            if deed[0] == "shut":
                roads = [road for road in roads if set(road[:2]) != set(deed[1:])]
            elif deed[0] == "build":
                roads = sorted([*roads, deed[1]])
            else:
                best = self.best((places, roads), stand, deed)
                stand, length = best
                calls.append(deed[1])
                way += length
        return (places, roads), stand, calls, way

    def best(self, town, stand, deed):
        replies = plain_replies(town, len(stand), self.rule, self.reach)
        if deed[0] == "answer":
            return next((reply for reply in replies[stand, deed[1]] if reply[0] == deed[2]), None)
        ranks = plain_ranks(town, len(stand), self.rule, self.reach, list(range(town[0])))
        return plain_best(replies, ranks, stand, deed[1])

    def rank(self):
        town, stand, _, _ = self.state()
        return plain_ranks(town, len(stand), self.rule, self.reach, list(range(town[0])))[stand]

    def told(self, deed):
        """Do a deed, and give what is told, or None and the class of the error."""
        kind = self.wrong(deed)
        if kind is not None:
            return None, kind
        found = None
        if deed == ("undo",):
            self.undone.append(self.in_force.pop())
        elif deed == ("redo",):
            self.in_force.append(self.undone.pop())
        else:
            town, stand, _, _ = self.state()
            if deed[0] in ("call", "answer"):
                found = self.best(town, stand, deed)
                found = found if deed[0] == "call" else found[1]
            self.in_force.append(deed)
            self.undone = []
            if deed[0] in ("shut", "build"):
                found = self.rank() is None
        self.journal.append(deed)
        return found, None

    def wrong(self, deed):
        (places, roads), stand, _, _ = self.state()
        if deed[0] == "undo":
            return None if self.in_force else NothingToUndo
        if deed[0] == "redo":
            return None if self.undone else NothingToRedo
        if deed[0] in ("call", "answer"):
            if not 0 <= deed[1] < places:
                return BadPlace
            missing = self.best((places, roads), stand, deed) is None
            return {"call": NoAnswer, "answer": NotAnswer}[deed[0]] if missing else None
        if deed[0] == "shut":
            return None if any(set(road[:2]) == set(deed[1:]) for road in roads) else NoRoad
        a, b, length = deed[1]
        right = 0 <= a < b < places and 1 <= length <= 9 and (a, b) not in [road[:2] for road in roads]
        return None if right else BadRoad

    def shown(self):
        town, stand, calls, way = self.state()
        rank = self.rank()
        return (
            town, stand, calls, way, rank, rank is None, self.journal, self.in_force != [], self.undone != [], len(calls),
        )


def shown(house):
    return (
        house.town(), house.stand(), house.calls(), house.way(), house.rank(), house.is_safe, house.journal(),
        house.can_undo, house.can_redo, len(house),
    )


def told(house, deed):
    """Do a deed by its method, and give what is told, or None and the class of the error."""
    try:
        return getattr(house, deed[0])(*deed[1:]), None
    except NearError as error:
        return None, error.__class__


def drawn_deed(rng, house):
    """A deed that often can be done."""
    (places, roads), stand = house.town(), house.stand()
    kind = rng.choice(["call", "call", "call", "answer", "shut", "build", "undo", "undo", "redo"])
    if kind == "call":
        return (kind, rng.randint(-1, places) if rng.random() < 0.1 else rng.randrange(places))
    if kind == "answer":
        call = rng.randrange(places)
        others = sorted([*list(stand)[1:], call]) if rng.random() < 0.7 else [call] * len(stand)
        return (kind, call, stand if rng.random() < 0.2 else tuple(others))
    if kind == "shut":
        first, second = rng.choice(roads)[:2] if roads and rng.random() < 0.8 else (rng.randrange(places), places - 1)
        return (kind, second, first) if rng.random() < 0.5 else (kind, first, second)
    if kind == "build":
        return (kind, (rng.randrange(places), rng.randrange(places), rng.randint(1, 3)))
    return (kind,)


def drawn_houses():
    for at, (town, helpers, rule, reach) in enumerate([
        (LINE, 2, "one", 1), (LINE, 1, "all", 2), (TOWN, 2, "one", 3), (TOWN, 2, "all", 3), (RING, 2, "one", 1),
        (TWO_PIECES, 2, "all", 5), (TRIANGLE, 1, "one", 5), (PATH, 3, "all", 1), (ALONE, 2, "one", 0),
        ((2, []), 1, "one", 60), (RING, 3, "one", 1),
    ]):
        rng = Random(at)
        for _ in range(3):
            stand = rng.choice(plain_stands(town, helpers))
            yield rng, House(town, stand, rule=rule, reach=reach), PlainHouse(town, stand, rule, reach)


def line_house(stand=(0, 2)):
    return House(LINE, stand, rule="one", reach=1)


class Houses(Raising, unittest.TestCase):
    def refused(self, kind, fields, house, act, *args):
        """What raises an error changes nothing."""
        ahead = deepcopy(shown(house))
        self.assert_raises_just(kind, fields, act, *args)
        self.assertEqual(shown(house), ahead)


class Making(Houses):
    def made(self, town, stand):
        return House(town, stand, rule="one", reach=1)

    def test_at_first(self):
        house = line_house()
        self.assertEqual(shown(house), (LINE, (0, 2), [], 0, None, True, [], False, False, 0))
        house = line_house((0, 0, 1))
        self.assertEqual(shown(house), (LINE, (0, 0, 1), [], 0, 1, False, [], False, False, 0))
        house = House(PATH, (1,), rule="all", reach=1)
        self.assertEqual(shown(house), (PATH, (1,), [], 0, 2, False, [], False, False, 0))

    def test_wrong_towns_come_first(self):
        for stand in [(0,), (), None, [0], (9,), (True,)]:
            self.assert_raises_just(BadSize, {}, self.made, (0, []), stand)
            self.assert_raises_just(BadSize, {}, self.made, (8, [(0, 0, 0)]), stand)
            self.assert_raises_just(BadSize, {}, self.made, (True, []), stand)
            self.assert_raises_just(BadRoad, {"at": 0}, self.made, (2, [(1, 0, 1)]), stand)
            self.assert_raises_just(BadRoad, {"at": 1}, self.made, (3, [(0, 1, 1), (0, 1, 2)]), stand)
            self.assert_raises_just(BadRoad, {"at": 2}, self.made, (3, [(0, 1, 1), (0, 2, 2), (1, 2, 10)]), stand)

    def test_no_stands(self):
        for stand in [
            (), (0, 0, 0, 0), (0, 1, 2, 3), [0], [], "0", "01", b"\x00", None, 0, 1, True, {0: 1}, {0}, Anything(), 0.0,
            object(), range(2), (1, 0), (0, 2, 1), (3, 2, 1), (4,), (0, 4), (-1,), (-1, 0), (0, 10 ** 30),
            ((0,),), ((0, 1),), ([0], 1), (0, None),
        ]:
            self.assert_raises_just(BadStand, {}, self.made, LINE, stand)
        for value in [*NO_WHOLE_NUMBERS, Anything()]:
            for stand in [(value,), (0, value), (value, 3), (0, value, 3)]:
                self.assert_raises_just(BadStand, {}, self.made, LINE, stand)

    def test_all_stands(self):
        for town, helpers in [(LINE, 1), (LINE, 2), (LINE, 3), (ALONE, 1), (ALONE, 3), (SEVEN, 3)]:
            for stand in plain_stands(town, helpers):
                self.assertEqual(self.made(town, stand).stand(), stand)

    def test_the_stand_decides_whether_it_is_safe(self):
        for town, helpers, rule, reach in [(LINE, 2, "one", 1), (RING, 2, "all", 1), (TOWN, 1, "one", 4), (PATH, 1, "all", 1)]:
            ranks = plain_ranks(town, helpers, rule, reach, list(range(town[0])))
            for stand in plain_stands(town, helpers):
                house = House(town, stand, rule=rule, reach=reach)
                self.assertEqual(house.rank(), ranks[stand])
                self.assertIs(house.is_safe, ranks[stand] is None)

    def test_lists_that_are_handed_in_are_copied(self):
        roads = list(LINE[1])
        town = (4, roads)
        house = self.made(town, (0, 2))
        roads.clear()
        self.assertEqual(house.town(), LINE)
        self.assertEqual(house.call(3), ((0, 3), 1))
        roads.append("spoilt")
        self.assertIs(house.shut(2, 3), False)
        self.assertEqual((house.town(), town), ((4, [(0, 1, 1), (1, 2, 1)]), (4, ["spoilt"])))
        house.undo()
        self.assertEqual(house.town(), LINE)

    def test_nothing_that_is_handed_in_is_changed(self):
        town = (4, list(LINE[1]))
        house = self.made(town, (0, 2))
        house.shut(0, 1)
        house.build((0, 2, 3))
        self.assertEqual(town, LINE)

    def test_lists_that_are_returned_are_the_callers(self):
        house = line_house()
        for deed in [("call", 3), ("shut", 1, 0), ("build", (0, 3, 2)), ("undo",), ("answer", 2, (0, 2))]:
            told(house, deed)
            ahead = deepcopy(shown(house))
            for spoilt in (house.town()[1], house.calls(), house.journal()):
                spoilt.append("spoilt")
                spoilt.reverse()
                self.assertEqual(shown(house), ahead)
        house.town()[1].clear()
        house.calls().clear()
        house.journal().clear()
        self.assertEqual(shown(house), ahead)


class Deeds(Houses):
    def test_a_call_gets_the_best_answer(self):
        house = line_house()
        self.assertEqual(house.call(3), ((0, 3), 1))
        self.assertEqual((house.stand(), house.calls(), house.way(), len(house)), ((0, 3), [3], 1, 1))
        self.assertEqual(house.call(3), ((0, 3), 0))
        self.assertEqual(house.call(1), ((1, 3), 1))
        self.assertEqual((house.stand(), house.calls(), house.way(), len(house)), ((1, 3), [3, 3, 1], 2, 3))
        self.assertEqual(house.journal(), [("call", 3), ("call", 3), ("call", 1)])
        self.assertEqual((house.is_safe, house.can_undo, house.can_redo), (True, True, False))

    def test_the_best_answer_is_safe_ahead_of_short_and_of_first(self):
        # The helper at 0 could stay, or the one at 2 could come; both would be beaten then.
        self.assertEqual(House(LINE, (0, 1), rule="all", reach=1).call(0), ((0, 2), 1))
        self.assertEqual(House(TOWN, (0, 1), rule="all", reach=3).call(0), ((0, 2), 3))
        self.assertEqual(House(LINE, (0, 2), rule="one", reach=1).call(1), ((1, 2), 1))
        for town, stand, call, rule, reach in [
            (LINE, (1, 2), 3, "one", 1), (TOWN, (1, 3), 0, "one", 60), (TOWN, (0, 0, 2), 1, "all", 5), (RING, (0, 2), 4, "all", 1),
            (LINE, (1, 1, 3), 2, "one", 1), (TWO_PIECES, (0, 2), 1, "all", 9), (PATH, (0, 1), 2, "one", 2), (RING, (0, 0), 1, "all", 1),
        ]:
            calls = list(range(town[0]))
            replies = plain_replies(town, len(stand), rule, reach)
            best = plain_best(replies, plain_ranks(town, len(stand), rule, reach, calls), stand, call)
            self.assertEqual(House(town, stand, rule=rule, reach=reach).call(call), best)

    def test_calls_from_no_place(self):
        house = line_house()
        for place in NO_PLACES:
            self.refused(BadPlace, {}, house, house.call, place)

    def test_calls_without_answer(self):
        house = line_house((0, 1))
        self.refused(NoAnswer, {}, house, house.call, 3)
        house = House(TWO_PIECES, (0, 1), rule="all", reach=60)
        self.refused(NoAnswer, {}, house, house.call, 2)
        self.refused(NoAnswer, {}, house, house.call, 4)
        self.assertEqual(house.call(3), ((1, 3), 1))

    def test_a_told_answer(self):
        house = line_house()
        self.assertEqual(house.answer(1, (1, 2)), 1)
        self.assertEqual((house.stand(), house.calls(), house.way(), len(house)), ((1, 2), [1], 1, 1))
        self.assertEqual(house.answer(2, (1, 2)), 0)
        self.assertEqual(house.answer(0, (0, 2)), 1)
        self.assertEqual(house.answer(1, (0, 1)), 1)
        self.assertEqual((house.stand(), house.calls(), house.way(), house.rank()), ((0, 1), [1, 2, 0, 1], 3, 1))
        self.assertEqual(house.journal(), [
            ("answer", 1, (1, 2)), ("answer", 2, (1, 2)), ("answer", 0, (0, 2)), ("answer", 1, (0, 1)),
        ])
        house = House(TOWN, (0, 2), rule="all", reach=3)
        self.assertEqual((house.answer(1, (1, 1)), house.way()), (5, 5))

    def test_answers_to_calls_from_no_place(self):
        house = line_house()
        for place in NO_PLACES:
            for stand in [(0, 2), (1, 2), None, (), Anything()]:
                self.refused(BadPlace, {}, house, house.answer, place, stand)

    def test_told_stands_that_are_no_answer(self):
        house = line_house()
        for stand in [
            (0, 2), (0, 3), (2, 3), (1,), (0, 1, 2), (2, 1), (1, 4), (-1, 1), (), [1, 2], "12", None, 1, True, {1: 2}, {1, 2},
            b"\x01\x02", object(), Anything(), ((1, 2),), ([1], 2), (1, 2, 3, 3), [0, 1], (1, 1), (2, 2),
        ]:
            self.refused(NotAnswer, {}, house, house.answer, 1, stand)

    def test_told_stands_that_only_compare_equal_to_an_answer(self):
        house = line_house()
        for stand in [(True, 2), (1.0, 2), (1, 2.0), (1 + 0j, 2), (Anything(), 2), (Anything(), Anything()), (False, True)]:
            self.refused(NotAnswer, {}, house, house.answer, 1, stand)
        self.assertTrue((True, 2) == (1, 2))
        house = House((2, [(0, 1, 1)]), (0,), rule="all", reach=1)
        for stand in [(True,), (1.0,), (Anything(),)]:
            self.refused(NotAnswer, {}, house, house.answer, 1, stand)
        self.assertEqual(house.answer(1, (1,)), 1)
        self.assertEqual([place.__class__ for place in house.stand()], [int])

    def test_an_answer_where_there_is_none(self):
        house = line_house((0, 1))
        self.refused(NotAnswer, {}, house, house.answer, 3, (1, 3))
        self.refused(NotAnswer, {}, house, house.answer, 3, (0, 3))

    def test_a_road_shut_with_its_places_in_both_orders(self):
        for first, second in [(2, 3), (3, 2)]:
            house = line_house()
            self.assertIs(house.shut(first, second), False)
            self.assertEqual((house.town(), house.rank(), house.is_safe), ((4, [(0, 1, 1), (1, 2, 1)]), 1, False))
            self.assertEqual((house.stand(), house.calls(), house.way(), len(house)), ((0, 2), [], 0, 0))
            self.assertEqual(house.journal(), [("shut", first, second)])
        house = line_house()
        self.assertIs(house.shut(2, 1), True)
        self.assertEqual((house.town(), house.rank()), ((4, [(0, 1, 1), (2, 3, 1)]), None))
        self.assertIs(house.shut(1, 0), False)
        self.assertEqual(house.town(), (4, [(2, 3, 1)]))

    def test_no_road(self):
        house = line_house()
        for first, second in [(0, 2), (2, 0), (0, 0), (3, 3), (0, 4), (4, 3), (-1, 0), (0, -1), (3, 0)]:
            self.refused(NoRoad, {}, house, house.shut, first, second)
        for value in NO_PLACES:
            for other in (0, 1, 2, 3, value):
                self.refused(NoRoad, {}, house, house.shut, value, other)
                self.refused(NoRoad, {}, house, house.shut, other, value)
        house.shut(0, 1)
        self.refused(NoRoad, {}, house, house.shut, 0, 1)
        self.refused(NoRoad, {}, house, house.shut, 1, 0)

    def test_a_road_built(self):
        house = line_house((0, 0))
        self.assertIs(house.build((0, 3, 1)), False)
        self.assertEqual((house.town(), house.rank()), ((4, [(0, 1, 1), (0, 3, 1), (1, 2, 1), (2, 3, 1)]), 1))
        self.assertIs(house.build((0, 2, 1)), True)
        self.assertEqual(house.town(), (4, [(0, 1, 1), (0, 2, 1), (0, 3, 1), (1, 2, 1), (2, 3, 1)]))
        self.assertEqual(house.journal(), [("build", (0, 3, 1)), ("build", (0, 2, 1))])
        self.assertEqual((house.stand(), house.calls(), house.way()), ((0, 0), [], 0))

    def test_roads_that_cannot_be_built(self):
        house = line_house()
        for road, at in [
            ((0, 1, 1), 0), ((0, 1, 9), 0), ((1, 2, 1), 1), ((2, 3, 4), 2), ((0, 2, 0), 1), ((0, 2, 10), 1), ((0, 0, 1), 0),
            ((1, 0, 1), 1), ((3, 2, 1), 3), ((0, 4, 1), 1), ((-1, 2, 1), 0), ((3, 3, 3), 3), ((4, 9, 1), 3), ((1, 3, -1), 2),
            ((0, 2, True), 3), ((False, 2, 1), 3), ((0, None, 1), 3), (("0", 2, 1), 3), ((0, 2, 1.0), 3), (([], {}, ()), 3),
            ((Anything(), Anything(), Anything()), 3),
        ]:
            self.refused(BadRoad, {"at": at}, house, house.build, road)

    def test_the_ground_is_the_new_one_for_later_deeds(self):
        house = line_house()
        house.build((0, 3, 1))
        self.assertEqual(house.answer(3, (2, 3)), 1)
        self.assertEqual(house.shut(3, 0), False)
        self.refused(NoAnswer, {}, house, house.call, 0)
        house = House((2, [(0, 1, 3)]), (0,), rule="one", reach=9)
        house.call(1)
        house.shut(0, 1)
        house.build((0, 1, 7))
        self.assertEqual((house.call(0), house.way()), (((0,), 7), 10))


class BackAndForth(Houses):
    def deeds(self):
        return [("call", 3), ("answer", 1, (1, 3)), ("shut", 3, 2), ("build", (0, 2, 1)), ("call", 0)]

    def states(self):
        """What the house shows ahead of the deeds and behind each of them, without the journal and what can be done."""
        house = line_house()
        found = [shown(house)[:6]]
        for deed in self.deeds():
            self.assertIsNone(told(house, deed)[1])
            found.append(shown(house)[:6])
        return house, found

    def test_nothing_to_undo_and_to_redo(self):
        house = line_house()
        self.refused(NothingToUndo, {}, house, house.undo)
        self.refused(NothingToRedo, {}, house, house.redo)
        house.call(3)
        self.refused(NothingToRedo, {}, house, house.redo)
        house.undo()
        self.refused(NothingToUndo, {}, house, house.undo)
        house.redo()
        self.refused(NothingToRedo, {}, house, house.redo)

    def test_each_kind_of_deed(self):
        for deed in [("call", 3), ("call", 0), ("answer", 1, (0, 1)), ("shut", 2, 1), ("build", (0, 3, 9))]:
            house = line_house()
            ahead = shown(house)
            told(house, deed)
            behind = shown(house)
            self.assertNotEqual(behind, ahead)
            self.assertIsNone(house.undo())
            self.assertEqual(shown(house), (*ahead[:6], [deed, ("undo",)], False, True, 0))
            self.assertIsNone(house.redo())
            self.assertEqual(shown(house), (*behind[:6], [deed, ("undo",), ("redo",)], True, False, len(behind[2])))

    def test_to_the_beginning_and_to_the_end(self):
        house, states = self.states()
        for at in range(len(states) - 2, -1, -1):
            house.undo()
            self.assertEqual(shown(house)[:6], states[at])
            self.assertEqual((house.can_undo, house.can_redo), (at > 0, True))
        for at in range(1, len(states)):
            house.redo()
            self.assertEqual(shown(house)[:6], states[at])
            self.assertEqual((house.can_undo, house.can_redo), (True, at < len(states) - 1))
        self.assertEqual(house.journal(), self.deeds() + [("undo",)] * 5 + [("redo",)] * 5)

    def test_a_deed_makes_an_end_of_what_could_be_redone(self):
        for deed in [("call", 2), ("answer", 2, (0, 2)), ("shut", 0, 1), ("build", (1, 3, 2))]:
            house = line_house()
            for told_first in [("call", 3), ("call", 2), ("undo",), ("undo",)]:
                told(house, told_first)
            self.assertIs(house.can_redo, True)
            self.assertIsNone(told(house, deed)[1])
            self.assertIs(house.can_redo, False)
            self.refused(NothingToRedo, {}, house, house.redo)
            house.undo()
            self.assertEqual((house.stand(), house.town(), house.can_undo), ((0, 2), LINE, False))

    def test_a_refused_deed_does_not(self):
        house, states = self.states()
        house.undo()
        house.undo()
        for deed in [("call", 9), ("call", True), ("answer", 0, (3, 3)), ("shut", 0, 3), ("build", (0, 1, 1)), ("do_all", [("call", 7)])]:
            self.assertIsNotNone(told(house, deed)[1])
            self.assertIs(house.can_redo, True)
        house.redo()
        house.redo()
        self.assertEqual(shown(house)[:6], states[-1])


class Lists(Houses):
    def test_one_after_another(self):
        house, other = line_house(), line_house()
        deeds = [("call", 3), ("answer", 1, (1, 3)), ("shut", 3, 2), ("build", (0, 2, 1)), ("call", 0)]
        self.assertIsNone(house.do_all(deeds))
        for deed in deeds:
            told(other, deed)
        self.assertEqual(shown(house), shown(other))
        self.assertEqual(house.journal(), deeds)
        # Each of the deeds is undone by itself.
        house.undo()
        other.undo()
        self.assertEqual(shown(house), shown(other))

    def test_the_empty_list(self):
        house = line_house()
        house.call(3)
        house.undo()
        ahead = shown(house)
        self.assertIsNone(house.do_all([]))
        self.assertEqual(shown(house), ahead)
        self.assertEqual(house.what_if([]), (0, 2))

    def test_undo_and_redo_among_them(self):
        house = line_house()
        house.do_all([("call", 3), ("undo",), ("redo",), ("call", 2), ("undo",)])
        self.assertEqual((house.stand(), house.calls(), house.can_redo), ((0, 3), [3], True))
        self.assertEqual(house.journal(), [("call", 3), ("undo",), ("redo",), ("call", 2), ("undo",)])
        house.do_all([("redo",)])
        self.assertEqual((house.stand(), house.calls()), ((0, 2), [3, 2]))

    def test_back_to_what_was_ahead_of_the_list(self):
        house = line_house()
        house.call(3)
        house.shut(1, 2)
        house.do_all([("undo",), ("undo",), ("call", 1)])
        self.assertEqual((house.stand(), house.calls(), house.town()), ((1, 2), [1], LINE))
        self.assertEqual((house.can_undo, house.can_redo), (True, False))
        house.undo()
        self.assertEqual((house.stand(), house.can_undo), ((0, 2), False))
        self.assertEqual(len(house.journal()), 6)

    def wrong_deeds(self):
        return [
            (("call", 9), BadPlace, {}), (("call", True), BadPlace, {}), (("call", [0]), BadPlace, {}),
            (("answer", None, (0, 2)), BadPlace, {}), (("answer", 1, (0, 0)), NotAnswer, {}),
            (("answer", 1, (True, 2)), NotAnswer, {}), (("shut", 0, 3), NoRoad, {}), (("shut", 1, "2"), NoRoad, {}),
            (("build", (1, 2, 3)), BadRoad, {"at": 1}), (("build", (0, None, 1)), BadRoad, {"at": 3}),
        ]

    def test_a_wrong_deed_at_each_place(self):
        good = [("call", 1), ("undo",), ("redo",), ("call", 2)]
        for wrong, kind, fields in self.wrong_deeds():
            for at in range(len(good) + 1):
                house = line_house()
                house.call(3)
                house.call(2)
                house.undo()
                deeds = [*good[:at], wrong, *good[at:]]
                self.refused(kind, fields, house, house.do_all, deeds)
                self.refused(kind, fields, house, house.what_if, deeds)
                # What could be redone still can.
                house.redo()
                self.assertEqual((house.stand(), house.calls()), ((0, 2), [3, 2]))

    def test_undo_and_redo_that_are_wrong(self):
        house = line_house()
        house.call(3)
        self.refused(NothingToUndo, {}, house, house.do_all, [("undo",), ("undo",)])
        self.refused(NothingToRedo, {}, house, house.do_all, [("redo",)])
        self.refused(NothingToRedo, {}, house, house.do_all, [("undo",), ("call", 0), ("redo",)])
        self.refused(NothingToUndo, {}, house, house.what_if, [("undo",), ("call", 1), ("undo",), ("undo",), ("call", 9)])
        house.shut(0, 1)
        self.refused(NoAnswer, {}, house, house.do_all, [("call", 3), ("call", 0), ("call", 1), ("call", 2), ("call", 9)])

    def test_what_if(self):
        house = line_house()
        house.call(3)
        house.undo()
        ahead = shown(house)
        for deeds, stand in [
            ([("call", 1)], (1, 2)), ([("call", 1), ("call", 3)], (1, 3)), ([("redo",)], (0, 3)), ([("shut", 0, 1)], (0, 2)),
            ([("call", 1), ("undo",)], (0, 2)), ([("answer", 1, (0, 1)), ("build", (0, 3, 1)), ("answer", 3, (1, 3))], (1, 3)),
        ]:
            self.assertEqual(house.what_if(deeds), stand)
            self.assertEqual(shown(house), ahead)

    def test_lists_of_deeds_are_copied(self):
        house = line_house()
        deeds = [("call", 3), ("shut", 0, 1)]
        house.do_all(deeds)
        ahead = deepcopy(shown(house))
        self.assertEqual(deeds, [("call", 3), ("shut", 0, 1)])
        deeds.append(("call", 2))
        deeds[0] = ("call", 0)
        self.assertEqual(shown(house), ahead)
        house.what_if(deeds[:1])
        self.assertEqual(deeds[:1], [("call", 0)])
        deeds.clear()
        house.undo()
        self.assertEqual((house.journal(), house.town()), ([("call", 3), ("shut", 0, 1), ("undo",)], LINE))


class Journals(Houses):
    def replayed(self, journal, town=LINE, stand=(0, 2)):
        return replay(town, stand, journal, rule="one", reach=1)

    def test_what_was_done(self):
        house = line_house()
        house.call(3)
        self.refused(BadPlace, {}, house, house.call, 4)
        house.do_all([("shut", 3, 2), ("undo",)])
        house.answer(1, (1, 3))
        house.build((0, 3, 2))
        self.refused(NothingToRedo, {}, house, house.redo)
        house.undo()
        house.redo()
        self.assertEqual(house.journal(), [
            ("call", 3), ("shut", 3, 2), ("undo",), ("answer", 1, (1, 3)), ("build", (0, 3, 2)), ("undo",), ("redo",),
        ])
        self.assertEqual({entry.__class__ for entry in house.journal()}, {tuple})

    def test_replayed_and_going_on_like_the_first_house(self):
        for rng, house, plain in drawn_houses():
            for _ in range(25):
                told(house, drawn_deed(rng, house))
            town, stand = plain.made_for
            other = replay(town, stand, house.journal(), rule=plain.rule, reach=plain.reach)
            self.assertIs(other.__class__, House)
            self.assertEqual(shown(other), shown(house))
            for deed in [("undo",)] * 4 + [("redo",)] * 3 + [("call", 0), ("undo",), ("redo",)]:
                self.assertEqual(told(other, deed), told(house, deed))
                self.assertEqual(shown(other), shown(house))

    def test_the_empty_journal(self):
        self.assertEqual(shown(self.replayed([])), shown(line_house()))

    def test_the_first_wrong_entry(self):
        good = [("call", 3), ("shut", 1, 2), ("undo",), ("build", (0, 2, 4)), ("undo",), ("undo",)]
        self.assertEqual(self.replayed(good).journal(), good)
        for wrong in [
            ("call", 4), ("call", True), ("call", {}), ("answer", 0, (2, 3)), ("answer", "0", (0, 2)), ("answer", 3, [0, 3]),
            ("answer", 0, (False, 2)), ("shut", 0, 3), ("shut", 0, None), ("build", (0, 1, 1)), ("build", (0, 2, False)),
        ]:
            for at in range(len(good) + 1):
                journal = [*good[:at], wrong, *good[at:], ("call", 9)]
                self.assert_raises_just(BadEntry, {"at": at}, self.replayed, journal)
        self.assert_raises_just(BadEntry, {"at": 0}, self.replayed, [("undo",)])
        self.assert_raises_just(BadEntry, {"at": 0}, self.replayed, [("redo",), ("undo",)])
        self.assert_raises_just(BadEntry, {"at": 6}, self.replayed, [*good, ("undo",)])
        self.assert_raises_just(BadEntry, {"at": 1}, self.replayed, [("call", 3), ("redo",)])
        self.assert_raises_just(BadEntry, {"at": 1}, self.replayed, [("shut", 2, 3), ("call", 3)])

    def test_towns_and_stands_come_first(self):
        self.assert_raises_just(BadSize, {}, self.replayed, [("call", 9)], (0, []), None)
        self.assert_raises_just(BadRoad, {"at": 0}, self.replayed, [("call", 9)], (2, [(0, 2, 1)]), None)
        self.assert_raises_just(BadStand, {}, self.replayed, [("call", 9)], LINE, (0, 4))
        self.assert_raises_just(BadStand, {}, self.replayed, [], LINE, [0, 2])

    def test_journals_are_copied(self):
        journal = [("call", 3), ("shut", 0, 1)]
        roads = list(LINE[1])
        house = self.replayed(journal, (4, roads))
        ahead = deepcopy(shown(house))
        self.assertEqual((journal, roads), ([("call", 3), ("shut", 0, 1)], LINE[1]))
        journal.append(("undo",))
        roads.clear()
        self.assertEqual(shown(house), ahead)
        house.undo()
        self.assertEqual(house.town(), LINE)


class Stories(Houses):
    def test_drawn_stories(self):
        seen = set()
        for rng, house, plain in drawn_houses():
            self.assertEqual(shown(house), plain.shown())
            for _ in range(60):
                deed = drawn_deed(rng, house)
                found = told(house, deed)
                self.assertEqual(found, plain.told(deed), deed)
                self.assertEqual(shown(house), plain.shown(), deed)
                seen.add((deed[0], found[1]))
        self.assertEqual(seen, {
            ("call", None), ("call", BadPlace), ("call", NoAnswer), ("answer", None), ("answer", NotAnswer),
            ("shut", None), ("shut", NoRoad), ("build", None), ("build", BadRoad), ("undo", None), ("undo", NothingToUndo),
            ("redo", None), ("redo", NothingToRedo),
        })

    def test_drawn_lists(self):
        done = 0
        for rng, house, plain in drawn_houses():
            for _ in range(20):
                deeds = [drawn_deed(rng, house) for _ in range(rng.randint(0, 4))]
                ahead = deepcopy(shown(house))
                kind = self.first_error(plain, deeds)
                if kind is None:
                    stand = house.what_if(deeds)
                    self.assertEqual(shown(house), ahead)
                    house.do_all(deeds)
                    self.assertEqual((house.stand(), shown(house)), (stand, plain.shown()))
                    done += len(deeds) > 1
                else:
                    for act in (house.what_if, house.do_all):
                        with self.assertRaises(kind):
                            act(deeds)
                        self.assertEqual(shown(house), ahead)
        self.assertGreater(done, 30)

    def first_error(self, plain, deeds):
        kept = list(plain.in_force), list(plain.undone), list(plain.journal)
        for deed in deeds:
            kind = plain.told(deed)[1]
            if kind is not None:
                plain.in_force, plain.undone, plain.journal = kept
                return kind
        return None

    def test_three_helpers_at_seven_places(self):
        rng = Random(9)
        for town, rule, reach in [(SEVEN, "all", 5), (SEVEN, "one", 9), (FULL, "all", 1)]:
            house, plain = House(town, (0, 3, 6), rule=rule, reach=reach), PlainHouse(town, (0, 3, 6), rule, reach)
            for _ in range(12):
                deed = drawn_deed(rng, house)
                self.assertEqual(told(house, deed), plain.told(deed))
            self.assertEqual(shown(house), plain.shown())


class ForEver(unittest.TestCase):
    """Point 58."""

    def houses(self):
        for town, helpers, rule, reach in [
            (LINE, 2, "one", 1), (LINE, 1, "all", 2), (TOWN, 2, "all", 3), (RING, 2, "one", 1), (RING, 2, "one", 2), (PATH, 1, "one", 1),
            (SEVEN, 2, "all", 9), (SEVEN, 3, "one", 9), ((6, [
                (0, 1, 2), (0, 2, 1), (0, 4, 3), (0, 5, 1), (1, 2, 2), (2, 3, 2), (2, 4, 1),
            ]), 3, "one", 2),
        ]:
            for stand in plain_stands(town, helpers)[::3]:
                yield House(town, stand, rule=rule, reach=reach)

    def test_safe_houses_answer_every_call(self):
        rng, many = Random(1), 0
        for house in self.houses():
            if house.is_safe:
                for _ in range(25):
                    house.call(rng.randrange(house.town()[0]))
                    self.assertIs(house.is_safe, True)
                self.assertEqual(len(house), 25)
                many += 1
        self.assertGreater(many, 20)

    def test_houses_with_a_rank_answer_as_many_calls_less_one(self):
        seen = set()
        for house in self.houses():
            if not house.is_safe:
                seen.add(house.rank())
                self.answer_all(house, house.rank() - 1)
        self.assertLessEqual({1, 2, 3, 4}, seen)

    def answer_all(self, house, many):
        """Whatever is called, so many calls are answered."""
        if many > 0:
            for place in range(house.town()[0]):
                house.call(place)
                self.answer_all(house, many - 1)
                house.undo()

    def test_roads_built_and_shut(self):
        rng, changed = Random(2), 0
        for house in self.houses():
            for _ in range(6):
                (places, roads), ahead = house.town(), house.rank()
                if rng.random() < 0.5 and roads:
                    is_safe = house.shut(*rng.choice(roads)[:2])
                    self.assertFalse(ahead is not None and is_safe)
                    self.assertTrue(ahead is None or house.rank() <= ahead)
                else:
                    kind = told(house, ("build", (rng.randrange(places), rng.randrange(places), rng.randint(1, 9))))
                    if kind[1] is None:
                        self.assertFalse(ahead is None and not kind[0])
                        self.assertTrue(house.rank() is None or house.rank() >= ahead)
                self.assertIs(house.is_safe, house.rank() is None)
                changed += house.rank() != ahead
        self.assertGreater(changed, 20)


class Kinds(unittest.TestCase):
    def test_of_what_is_told(self):
        house = line_house()
        best = house.call(3)
        self.assertEqual((best.__class__, best[0].__class__, best[1].__class__), (tuple, tuple, int))
        self.assertIs(house.answer(3, (0, 3)).__class__, int)
        self.assertIs(house.shut(0, 1).__class__, bool)
        self.assertIs(house.build((0, 1, 1)).__class__, bool)
        for act in (house.undo, house.redo):
            self.assertIsNone(act())
        self.assertIsNone(house.do_all([("undo",)]))
        self.assertIs(house.what_if([]).__class__, tuple)

    def test_of_what_it_shows(self):
        house = line_house((0, 1))
        house.call(2)
        kinds = [value.__class__ for value in shown(house)]
        self.assertEqual(kinds, [tuple, tuple, list, int, type(None), bool, list, bool, bool, int])
        house = line_house((0, 0))
        self.assertIs(house.rank().__class__, int)


if __name__ == "__main__":
    unittest.main()
