"""The interface: names, arguments and the files that define them, and the document's examples."""

import doctest
import inspect
import os
import unittest

from evernear import busy, chances, errors, house, least, long, roads, rows, safe, stands, texts, towns
from evernear.busy import busy_answers, can_keep_busy, most_rest
from evernear.chances import answered_chance, is_below, least_mean, mean_total
from evernear.errors import BadText
from evernear.house import House
from evernear.least import farthest, fewest_rooms, least_helpers, reach_steps
from evernear.long import is_above, least_rate, worst_rate
from evernear.roads import helpers_without, needed_roads, thinned
from evernear.rows import best_plan, least_cost, nearest_plan, plan_cost
from evernear.safe import beating_row, best_answer, calling_rule, is_closed, ranks, safe_stands
from evernear.stands import answers, move_length
from evernear.texts import diary, read_calls, read_town, write_calls
from evernear.towns import matters, way, within

SIGNATURES = {
    errors: {"BadRoad": "(at)", "BadText": "(line, column)", "BadCall": "(at)", "BadEntry": "(at)"},
    towns: {
        "check_town": "(town)",
        "ways": "(town)",
        "way": "(town, first, second)",
        "is_one_piece": "(town)",
        "within": "(town, place, *, reach)",
        "without_road": "(town, at)",
        "with_road": "(town, road)",
        "matters": "(town, at)",
    },
    stands: {
        "stands_of": "(town, helpers)",
        "move_length": "(town, first, second, *, reach=60)",
        "answers": "(town, stand, call, *, rule, reach)",
        "can_answer": "(town, stand, call, *, rule, reach)",
        "is_answered": "(town, stands, calls, *, rule, reach)",
    },
    texts: {
        "write_town": "(town)",
        "read_town": "(text)",
        "write_calls": "(calls)",
        "read_calls": "(town, text)",
        "diary": "(town, stands, calls, *, rule, reach)",
    },
    safe: {
        "safe_stands": "(town, helpers, *, rule, reach, calls)",
        "ranks": "(town, helpers, *, rule, reach, calls)",
        "is_closed": "(town, stands, *, rule, reach, calls)",
        "shows_safe": "(town, stand, stands, *, rule, reach, calls)",
        "is_beating": "(town, rows, *, rule, reach, calls)",
        "best_answer": "(town, stand, call, *, rule, reach, calls)",
        "safe_rule": "(town, helpers, *, rule, reach, calls)",
        "calling_rule": "(town, helpers, *, rule, reach, calls)",
        "gone": "(town, stand, row, *, rule, reach, calls)",
        "beating_row": "(town, stand, *, rule, reach, calls)",
    },
    least: {
        "can_keep": "(town, helpers, calls, *, rule, reach)",
        "least_helpers": "(town, calls, *, rule, reach)",
        "least_reach": "(town, helpers, calls, *, rule)",
        "reach_steps": "(town, calls, *, rule)",
        "is_far": "(town, places, *, rule, reach)",
        "farthest": "(town, calls, *, rule, reach)",
        "are_rooms": "(town, calls, rooms, *, reach)",
        "fewest_rooms": "(town, calls, *, reach)",
        "pieces": "(town)",
    },
    rows: {
        "plan_cost": "(town, start, calls, plan, *, rule, reach)",
        "least_cost": "(town, start, calls, *, rule, reach)",
        "best_plan": "(town, start, calls, *, rule, reach)",
        "count_best": "(town, start, calls, *, rule, reach)",
        "best_answers": "(town, start, calls, *, rule, reach)",
        "nearest_plan": "(town, start, calls, *, rule, reach)",
        "best_start": "(town, helpers, calls, *, rule, reach)",
        "row_table": "(town, start, calls, *, rule, reach)",
        "is_row_table": "(town, start, calls, table, *, rule, reach)",
        "shows_plan": "(town, start, calls, plan, table, *, rule, reach)",
        "shows_no_plan": "(town, start, calls, table, *, rule, reach)",
    },
    long: {
        "least_rate": "(town, helpers, calls, *, rule)",
        "rows_above": "(town, helpers, calls, *, rule)",
        "rows_below": "(town, helpers, calls, *, rule)",
        "is_above": "(town, helpers, calls, rate, rows, *, rule)",
        "is_below": "(town, helpers, calls, rate, rows, *, rule)",
        "best_answering": "(town, helpers, calls, *, rule)",
        "best_calling": "(town, helpers, calls, *, rule)",
        "worst_rate": "(town, answering, stand)",
        "best_rate": "(town, calling, stand, *, rule)",
    },
    chances: {
        "check_chances": "(town, chances)",
        "answered_chance": "(town, stand, chances, *, rule, reach, many)",
        "chance_table": "(town, helpers, chances, *, rule, reach, many)",
        "mean_total": "(town, stand, chances, *, many)",
        "side_of": "(town, stand, chances, rows)",
        "is_above": "(town, helpers, chances, paper)",
        "is_below": "(town, helpers, chances, paper)",
        "least_mean": "(town, helpers, chances)",
        "mean_paper": "(town, helpers, chances)",
    },
    busy: {
        "rested": "(stand)",
        "busy_answers": "(town, state, call, *, reach, rest)",
        "safe_states": "(town, helpers, calls, *, reach, rest)",
        "is_closed_busy": "(town, states, calls, *, reach, rest)",
        "safe_when_rested": "(town, helpers, calls, *, reach, rest)",
        "can_keep_busy": "(town, helpers, calls, *, reach, rest)",
        "most_rest": "(town, helpers, calls, *, reach)",
    },
    roads: {
        "lost_stands": "(town, at, helpers, calls, *, rule, reach)",
        "needed_roads": "(town, helpers, calls, *, rule, reach)",
        "helpers_without": "(town, calls, *, rule, reach)",
        "thinned": "(town, helpers, calls, *, rule, reach)",
        "helping_roads": "(town, helpers, calls, *, rule, reach, length)",
    },
    house: {
        "House": "(town, stand, *, rule, reach)",
        "replay": "(town, stand, journal, *, rule, reach)",
    },
}

METHODS_OF_HOUSE = {
    "call": "(self, place)",
    "answer": "(self, place, stand)",
    "shut": "(self, first, second)",
    "build": "(self, road)",
    "undo": "(self)",
    "redo": "(self)",
    "do_all": "(self, deeds)",
    "what_if": "(self, deeds)",
    "town": "(self)",
    "stand": "(self)",
    "calls": "(self)",
    "way": "(self)",
    "rank": "(self)",
    "journal": "(self)",
    "__len__": "(self)",
}
PROPERTIES_OF_HOUSE = ["is_safe", "can_undo", "can_redo"]


class Interface(unittest.TestCase):
    def test_names_and_arguments(self):
        for module, listed in SIGNATURES.items():
            for name, signature in listed.items():
                self.assertEqual(str(inspect.signature(getattr(module, name))), signature, name)

    def test_each_is_defined_in_its_file(self):
        for module, listed in SIGNATURES.items():
            for name in listed:
                self.assertEqual(getattr(module, name).__module__, module.__name__, name)

    def test_methods_and_properties_stand_in_the_class_itself(self):
        own = vars(House)
        self.assertEqual(House.__bases__, (object,))
        for name, signature in METHODS_OF_HOUSE.items():
            self.assertTrue(inspect.isfunction(own[name]), name)
            self.assertEqual(str(inspect.signature(own[name])), signature, name)
        for name in PROPERTIES_OF_HOUSE:
            self.assertIsInstance(own[name], property, name)
            with self.assertRaises(AttributeError):
                setattr(House((1, []), (0,), rule="one", reach=0), name, True)

    def test_arguments_can_be_told_by_their_names(self):
        town = (2, [(0, 1, 3)])
        self.assertEqual(towns.way(second=1, first=0, town=town), 3)
        self.assertEqual(stands.answers(reach=3, rule="one", call=1, stand=(0,), town=town), [((1,), 3)])
        self.assertEqual(texts.read_calls(text="calls 1\n", town=town), [1])
        self.assertEqual(busy.busy_answers(rest=1, reach=3, call=1, state=((0, 0),), town=town), [((1, 1),)])
        self.assertEqual(chances.least_mean(chances=[(1, 2), (1, 2)], helpers=1, town=town), (3, 2))
        made = house.replay(reach=3, rule="one", journal=[("call", 1)], stand=(0,), town=town)
        self.assertEqual(made.answer(stand=(0,), place=0), 3)
        self.assertEqual((made.shut(second=0, first=1), made.build(road=(0, 1, 3))), (False, True))
        self.assertIsNone(made.do_all(deeds=[("undo",)]))
        self.assertEqual(made.what_if(deeds=[("redo",)]), (0,))

    def test_arguments_behind_the_star_are_told_by_their_names_alone(self):
        town = (2, [(0, 1, 3)])
        for act, args in [
            (towns.within, (town, 0, 3)),
            (stands.move_length, (town, (0,), (1,), 3)),
            (stands.answers, (town, (0,), 1, "one", 3)),
            (stands.can_answer, (town, (0,), 1, "one", 3)),
            (stands.is_answered, (town, [(0,)], [], "one", 3)),
            (texts.diary, (town, [(0,)], [], "one", 3)),
            (safe.safe_stands, (town, 1, "one", 3, [0])),
            (safe.best_answer, (town, (0,), 0, "one", 3, [0])),
            (least.can_keep, (town, 1, [0], "one", 3)),
            (least.fewest_rooms, (town, [0], 3)),
            (rows.least_cost, (town, (0,), [], "one", 3)),
            (long.least_rate, (town, 1, [0], "one")),
            (long.best_rate, (town, [((0,), 0), ((1,), 0)], (0,), "one")),
            (chances.chance_table, (town, 1, [(1, 2), (1, 2)], "one", 3, 1)),
            (chances.mean_total, (town, (0,), [(1, 2), (1, 2)], 1)),
            (busy.busy_answers, (town, ((0, 0),), 1, 3, 1)),
            (busy.most_rest, (town, 1, [0], 3)),
            (roads.needed_roads, (town, 1, [0], "one", 3)),
            (roads.helping_roads, (town, 1, [0], "one", 3, 1)),
            (house.House, (town, (0,), "one", 3)),
            (house.replay, (town, (0,), [], "one", 3)),
        ]:
            with self.assertRaises(TypeError):
                act(*args)


class Examples(unittest.TestCase):
    TOWN = (4, [(0, 1, 2), (0, 2, 9), (1, 2, 3), (2, 3, 1)])

    def test_towns(self):
        town = self.TOWN
        self.assertEqual((way(town, 0, 3), within(town, 0, reach=5), matters(town, 1)), (6, [0, 1, 2], False))

    def test_stands(self):
        town = self.TOWN
        self.assertEqual(answers(town, (0, 2), 1, rule="one", reach=3), [((0, 1), 3), ((1, 2), 2)])
        self.assertEqual(
            answers(town, (0, 2), 1, rule="all", reach=3),
            [((0, 1), 3), ((1, 1), 5), ((1, 2), 2), ((1, 3), 3)],
        )
        self.assertEqual(move_length(town, (0, 2), (1, 3)), 3)
        self.assertIsNone(move_length(town, (0, 2), (1, 3), reach=1))

    def test_texts(self):
        town = read_town("places 4\nroad 0 1 2\nroad 0 2 9\nroad 1 2 3\nroad 2 3 1\n")
        self.assertEqual(town, self.TOWN)
        self.assertEqual((read_calls(town, "calls 1 0\n"), write_calls([])), ([1, 0], "calls\n"))
        self.assertEqual(
            diary(town, [(0, 2), (1, 2), (0, 2)], [1, 0], rule="one", reach=3),
            "call 1 from 0 2 to 1 2 way 2\ncall 0 from 1 2 to 0 2 way 2\nway 4\n",
        )
        with self.assertRaises(BadText) as caught:
            read_town("places 4\nroad  1 2\n")
        self.assertEqual((caught.exception.line, caught.exception.column), (2, 6))

    def test_safe(self):
        town = (4, [(0, 1, 1), (1, 2, 1), (2, 3, 1)])
        told = {"rule": "one", "reach": 1, "calls": [0, 1, 2, 3]}
        self.assertEqual(safe_stands(town, 2, **told), [(0, 2), (0, 3), (1, 2), (1, 3)])
        self.assertEqual(
            ranks(town, 2, **told),
            [((0, 0), 1), ((0, 1), 1), ((1, 1), 1), ((2, 2), 1), ((2, 3), 1), ((3, 3), 1)],
        )
        self.assertEqual(best_answer(town, (1, 2), 3, **told), ((1, 3), 1))
        self.assertIs(is_closed(town, [(0, 2), (1, 3)], rule="one", reach=1, calls=[0, 3]), False)
        path = (3, [(0, 1, 1), (1, 2, 1)])
        told["calls"] = [0, 1, 2]
        self.assertEqual(beating_row(path, (1,), **told), [0, 2])
        self.assertEqual(calling_rule(path, 1, **told), [((0,), 1, 2), ((1,), 2, 0), ((2,), 1, 0)])

    def test_least(self):
        town, calls = self.TOWN, [0, 1, 2, 3]
        self.assertEqual(least_helpers(town, calls, rule="one", reach=3), 2)
        self.assertEqual(reach_steps(town, calls, rule="all"), [(0, None), (1, 3), (2, 2), (6, 1)])
        self.assertEqual(farthest(town, calls, rule="one", reach=3), [0, 2])
        self.assertEqual(farthest(town, calls, rule="all", reach=3), [0])
        self.assertEqual(fewest_rooms(town, calls, reach=3), [[0, 1], [2, 3]])

    def test_rows(self):
        town, told = self.TOWN, {"rule": "one", "reach": 60}
        self.assertEqual(least_cost(town, (0, 3), [1, 0, 1, 0], **told), 4)
        self.assertEqual(best_plan(town, (0, 3), [1, 0, 1, 0], **told), [(0, 1), (0, 1), (0, 1), (0, 1)])
        self.assertEqual(nearest_plan(town, (0, 3), [1, 0, 1, 0], **told), [(1, 3), (0, 3), (1, 3), (0, 3)])
        self.assertIsNone(plan_cost(town, (0, 3), [1], [(0, 1)], rule="one", reach=3))

    def test_long(self):
        town = self.TOWN
        rates = [least_rate(town, helpers, [0, 1, 3], rule="one") for helpers in (1, 2, 3)]
        self.assertEqual(rates, [(6, 1), (2, 1), (0, 1)])
        rows_of_leads = [((0,), (0, 1)), ((1,), (0, 1)), ((2,), (3, 1)), ((3,), (4, 1))]
        self.assertIs(is_above(town, 1, [0, 1], (2, 1), rows_of_leads, rule="one"), True)
        answering = [((0,), 0, (0,)), ((0,), 1, (1,)), ((1,), 0, (0,)), ((1,), 1, (1,))]
        self.assertEqual(worst_rate((2, [(0, 1, 9)]), answering, (0,)), (9, 1))

    def test_chances(self):
        town, told = (3, [(0, 1, 1), (1, 2, 1)]), [(1, 4), (1, 2), (1, 4)]
        self.assertEqual(answered_chance(town, (1,), told, rule="one", reach=1, many=2), (7, 8))
        self.assertEqual((mean_total(town, (1,), told, many=2), least_mean(town, 1, told)), ((5, 4), (3, 4)))
        paper = ((3, 4), [((0,), (1, 2)), ((1,), (0, 1)), ((2,), (1, 2))])
        self.assertIs(chances.is_above(town, 1, told, paper), True)
        self.assertIs(is_below(town, 1, told, ((1, 2), paper[1])), True)

    def test_busy(self):
        town, calls = self.TOWN, [0, 1, 2, 3]
        self.assertEqual(busy_answers(town, ((0, 0), (2, 1)), 1, reach=3, rest=2), [((1, 2), (2, 0))])
        self.assertIs(can_keep_busy(town, 2, calls, reach=3, rest=0), True)
        self.assertEqual(most_rest(town, 2, calls, reach=3), 0)

    def test_roads(self):
        town, calls, told = self.TOWN, [0, 1, 2, 3], {"rule": "one", "reach": 3}
        self.assertEqual(needed_roads(town, 2, calls, **told), [0, 3])
        self.assertEqual(helpers_without(town, calls, **told), [3, 2, 2, 3])
        self.assertEqual(thinned(town, 2, calls, **told), (4, [(0, 1, 2), (2, 3, 1)]))

    def test_house(self):
        made = House((4, [(0, 1, 1), (1, 2, 1), (2, 3, 1)]), (0, 2), rule="one", reach=1)
        self.assertEqual(
            (made.is_safe, made.call(3), made.call(2), made.answer(3, (0, 3)), made.way()),
            (True, ((0, 3), 1), ((0, 2), 1), 1, 3),
        )
        self.assertEqual(
            (made.call(1), made.stand(), made.shut(3, 2), made.rank(), made.build((0, 2, 1))),
            (((1, 3), 1), (1, 3), False, 2, True),
        )

    def test_the_readme(self):
        path = os.path.join(os.path.dirname(__file__), os.pardir, "README.md")
        failed, tried = doctest.testfile(path, module_relative=False)
        self.assertEqual(failed, 0)
        self.assertGreater(tried, 0)


if __name__ == "__main__":
    unittest.main()
