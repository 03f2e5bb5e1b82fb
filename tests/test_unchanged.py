"""The first paragraph: nothing that is handed in is modified, and what is returned is new."""

import unittest
from copy import deepcopy

from evernear import busy, chances, errors, house, least, long, roads, rows, safe, stands, texts, towns
from evernear.errors import NearError
from tests.samples import LINE, TOWN, TWO_PIECES
from tests.test_interface import SIGNATURES

ROW = [(0, 2), (1, 2), (0, 2)]
BY_ONE = {"rule": "one", "reach": 3}
BY_ALL = {"rule": "all", "reach": 3}

CALLED = [0, 1, 3]
START = (0, 2)
SAFE_BY_ONE = {**BY_ONE, "calls": CALLED}
SAFE_BY_ALL = {**BY_ALL, "calls": CALLED}
# With this reach some stands are beaten.
NEAR = {"rule": "one", "reach": 1, "calls": [0, 1, 2, 3]}
TABLE = rows.row_table(TOWN, START, [1, 0, 3], **BY_ONE)
NO_TABLE = rows.row_table(TOWN, (0, 0), [3], **BY_ONE)
PLAN = rows.best_plan(TOWN, START, [1, 0, 3], **BY_ONE)
ABOVE = long.rows_above(TOWN, 2, CALLED, rule="one")
BELOW = long.rows_below(TOWN, 2, CALLED, rule="all")
ANSWERING = long.best_answering(TOWN, 2, CALLED, rule="all")
CALLING = long.best_calling(TOWN, 2, CALLED, rule="one")

EVEN = [(1, 4), (1, 4), (0, 1), (1, 2)]
FEW = {"rule": "one", "reach": 3, "many": 3}
PAPER = chances.mean_paper(TOWN, 2, EVEN)
BUSY = {"reach": 60, "rest": 1}
STATES = busy.safe_states(TOWN, 2, CALLED, **BUSY)
JOURNAL = [("call", 1), ("shut", 0, 1), ("undo",), ("build", (0, 3, 1)), ("answer", 3, (1, 3))]


def house_told(town, stand, deeds, *, rule, reach):
    """All that a house shows behind a list of deeds."""
    made = house.House(town, stand, rule=rule, reach=reach)
    found = (made.what_if(deeds), made.town(), made.journal())
    made.do_all(deeds)
    return (found, made.town(), made.stand(), made.calls(), made.way(), made.rank(), made.journal())


def replay_told(town, stand, journal, *, rule, reach):
    made = house.replay(town, stand, journal, rule=rule, reach=reach)
    return (made.town(), made.stand(), made.calls(), made.way(), made.rank(), made.journal())


# A house is no value that can be compared, so what it shows is looked at in its place.
SHOWN_BY = {house.House: house_told, house.replay: replay_told}

CALLS_OF_FUNCTIONS = [
    (towns.check_town, [TOWN], {}),
    (towns.check_town, [(4, [(0, 2, 1), (0, 1, 1)])], {}),
    (towns.ways, [TOWN], {}),
    (towns.way, [TOWN, 0, 3], {}),
    (towns.is_one_piece, [TOWN], {}),
    (towns.within, [TOWN, 0], {"reach": 5}),
    (towns.without_road, [TOWN, 1], {}),
    (towns.with_road, [TOWN, (1, 3, 9)], {}),
    (towns.with_road, [TOWN, (0, 1, 9)], {}),
    (towns.with_road, [TOWN, ([], [1], 9)], {}),
    (towns.matters, [TOWN, 1], {}),
    (stands.stands_of, [TOWN, 2], {}),
    (stands.move_length, [TOWN, (0, 2), (1, 3)], {"reach": 3}),
    (stands.answers, [TOWN, (0, 2), 1], BY_ONE),
    (stands.answers, [TOWN, (0, 2), 2], BY_ONE),
    (stands.answers, [TOWN, (0, 2), 1], BY_ALL),
    (stands.can_answer, [LINE, (0, 2), 1], BY_ALL),
    (stands.is_answered, [TOWN, ROW, [1, 0]], BY_ONE),
    (stands.is_answered, [TOWN, ROW, [1, 0]], BY_ALL),
    (texts.write_town, [TOWN], {}),
    (texts.read_town, [texts.write_town(TOWN)], {}),
    (texts.write_calls, [[1, 0]], {}),
    (texts.read_calls, [TOWN, "calls 1 0\n"], {}),
    (texts.diary, [TOWN, ROW, [1, 0]], BY_ONE),
    (texts.diary, [TOWN, ROW, [1, 0]], BY_ALL),
    (safe.safe_stands, [LINE, 2], NEAR),
    (safe.safe_stands, [TOWN, 2], SAFE_BY_ALL),
    (safe.ranks, [LINE, 2], NEAR),
    (safe.is_closed, [LINE, [(0, 3), (1, 3), (0, 2), (1, 2), (0, 2)]], NEAR),
    (safe.shows_safe, [LINE, (0, 2), [(0, 3), (1, 3), (0, 2), (1, 2)]], NEAR),
    (safe.is_beating, [LINE, [((2, 3), 1, 0), ((0, 1), 1, 3)]], NEAR),
    (safe.best_answer, [LINE, (0, 2), 3], NEAR),
    (safe.best_answer, [TOWN, (0, 2), 3], SAFE_BY_ALL),
    (safe.safe_rule, [LINE, 2], NEAR),
    (safe.calling_rule, [LINE, 2], NEAR),
    (safe.gone, [LINE, (0, 2), [3, 1, 0, 0]], NEAR),
    (safe.beating_row, [LINE, (0, 1)], NEAR),
    (safe.beating_row, [TOWN, (0, 2)], SAFE_BY_ONE),
    (least.can_keep, [TOWN, 2, CALLED], BY_ONE),
    (least.least_helpers, [TOWN, CALLED], BY_ALL),
    (least.least_reach, [TOWN, 2, CALLED], {"rule": "one"}),
    (least.reach_steps, [TOWN, CALLED], {"rule": "all"}),
    (least.is_far, [TOWN, [0, 3]], BY_ONE),
    (least.farthest, [TOWN, CALLED], BY_ONE),
    (least.farthest, [TOWN, CALLED], BY_ALL),
    (least.are_rooms, [TOWN, CALLED, [[0, 1], [3]]], {"reach": 3}),
    (least.are_rooms, [TOWN, CALLED, [[3], [1, 0]]], {"reach": 3}),
    (least.fewest_rooms, [TOWN, CALLED], {"reach": 3}),
    (least.pieces, [TWO_PIECES], {}),
    (rows.plan_cost, [TOWN, START, [1, 0, 3], PLAN], BY_ONE),
    (rows.least_cost, [TOWN, START, [1, 0, 3]], BY_ONE),
    (rows.best_plan, [TOWN, START, [1, 0, 3]], BY_ONE),
    (rows.best_plan, [TOWN, START, []], BY_ALL),
    (rows.count_best, [TOWN, START, [1, 0, 3]], BY_ALL),
    (rows.best_answers, [TOWN, START, [1, 0, 3]], BY_ALL),
    (rows.best_answers, [TOWN, START, []], BY_ALL),
    (rows.nearest_plan, [TOWN, START, [1, 0, 3]], BY_ONE),
    (rows.best_start, [TOWN, 2, [1, 0, 3]], BY_ALL),
    (rows.row_table, [TOWN, START, [1, 0, 3]], BY_ALL),
    (rows.is_row_table, [TOWN, START, [1, 0, 3], TABLE], BY_ONE),
    (rows.is_row_table, [TOWN, START, [1, 0, 3], TABLE[::-1]], BY_ONE),
    (rows.shows_plan, [TOWN, START, [1, 0, 3], PLAN, TABLE], BY_ONE),
    (rows.shows_no_plan, [TOWN, (0, 0), [3], NO_TABLE], BY_ONE),
    (long.least_rate, [TOWN, 2, CALLED], {"rule": "one"}),
    (long.rows_above, [TOWN, 2, CALLED], {"rule": "all"}),
    (long.rows_below, [TOWN, 2, CALLED], {"rule": "one"}),
    (long.is_above, [TOWN, 2, CALLED, (2, 1), ABOVE], {"rule": "one"}),
    (long.is_below, [TOWN, 2, CALLED, (2, 1), BELOW], {"rule": "all"}),
    (long.is_below, [TOWN, 2, CALLED, (2, 1), BELOW[::-1]], {"rule": "all"}),
    (long.best_answering, [TOWN, 2, CALLED], {"rule": "one"}),
    (long.best_calling, [TOWN, 2, CALLED], {"rule": "all"}),
    (long.worst_rate, [TOWN, ANSWERING, START], {}),
    (long.best_rate, [TOWN, CALLING, START], {"rule": "all"}),
    (chances.check_chances, [TOWN, EVEN], {}),
    (chances.check_chances, [TOWN, [(1, 2), (1, 2), (0, 2), (0, 1)]], {}),
    (chances.answered_chance, [TOWN, START, EVEN], FEW),
    (chances.chance_table, [TOWN, 2, EVEN], FEW),
    (chances.mean_total, [TOWN, START, EVEN], {"many": 3}),
    (chances.side_of, [TOWN, START, EVEN, PAPER[1]], {}),
    (chances.is_above, [TOWN, 2, EVEN, PAPER], {}),
    (chances.is_above, [TOWN, 2, EVEN, (PAPER[0], PAPER[1][::-1])], {}),
    (chances.is_below, [TOWN, 2, EVEN, PAPER], {}),
    (chances.is_below, [TOWN, 2, EVEN, (PAPER[0], PAPER[1][::-1])], {}),
    (chances.least_mean, [TOWN, 2, EVEN], {}),
    (chances.mean_paper, [TOWN, 2, EVEN], {}),
    (chances.mean_paper, [TOWN, 1, EVEN], {}),
    (busy.rested, [START], {}),
    (busy.busy_answers, [TOWN, ((0, 0), (2, 1)), 1], BUSY),
    (busy.busy_answers, [TOWN, ((0, 0), (2, 1)), 2], BUSY),
    (busy.safe_states, [TOWN, 3, CALLED], BUSY),
    (busy.is_closed_busy, [TOWN, STATES[::-1], CALLED], BUSY),
    (busy.is_closed_busy, [TOWN, STATES[:1], CALLED], BUSY),
    (busy.safe_when_rested, [TOWN, 3, CALLED], BUSY),
    (busy.can_keep_busy, [TOWN, 3, CALLED], BUSY),
    (busy.most_rest, [TOWN, 3, CALLED], {"reach": 60}),
    (roads.lost_stands, [TOWN, 0, 2, CALLED], BY_ONE),
    (roads.needed_roads, [TOWN, 2, CALLED], BY_ONE),
    (roads.helpers_without, [TOWN, CALLED], BY_ALL),
    (roads.thinned, [TOWN, 2, CALLED], BY_ONE),
    (roads.thinned, [LINE, 1, CALLED], BY_ONE),
    (roads.helping_roads, [TOWN, 1, CALLED], {**BY_ONE, "length": 1}),
    (roads.helping_roads, [TOWN, 2, CALLED], {**BY_ONE, "length": 1}),
    (house.House, [TOWN, START, JOURNAL], BY_ALL),
    (house.replay, [TOWN, START, JOURNAL], BY_ALL),
    (house.replay, [TOWN, START, [("call", 1), ("call", 9)]], BY_ALL),
]


def told(act, args, more):
    """What a call returns, or the class and the fields of what it raises."""
    try:
        return SHOWN_BY.get(act, act)(*args, **more)
    except NearError as error:
        return (error.__class__.__name__, vars(error))


def spoil(value):
    """Change every list within a value."""
    if isinstance(value, (list, tuple)):
        for part in value:
            spoil(part)
    if isinstance(value, list):
        value.append("spoilt")
        value.reverse()


class Unchanged(unittest.TestCase):
    def test_what_is_handed_in_stays_as_it_was(self):
        for act, args, more in CALLS_OF_FUNCTIONS:
            args, more = deepcopy(args), deepcopy(more)
            kept = repr((args, more))
            told(act, args, more)
            self.assertEqual(repr((args, more)), kept, act.__name__)

    def test_changing_what_was_returned_changes_nothing_else(self):
        for act, args, more in CALLS_OF_FUNCTIONS:
            args, more = deepcopy(args), deepcopy(more)
            kept = repr((args, more))
            first = told(act, args, more)
            expected = deepcopy(first)
            spoil(first)
            self.assertEqual(repr((args, more)), kept, act.__name__)
            self.assertEqual(told(act, args, more), expected, act.__name__)

    def test_each_function_of_the_interface_is_called(self):
        called = {act for act, _, _ in CALLS_OF_FUNCTIONS}
        self.assertEqual(called, {
            getattr(module, name) for module, listed in SIGNATURES.items() if module is not errors for name in listed
        })

    def test_no_list_is_returned_twice_in_one_value(self):
        table = towns.ways(TOWN)
        table[0].append("spoilt")
        self.assertEqual([len(row) for row in table], [5, 4, 4, 4])


if __name__ == "__main__":
    unittest.main()
