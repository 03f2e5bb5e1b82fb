"""The first paragraph: nothing that is handed in is modified, and what is returned is new."""

import unittest
from copy import deepcopy

from evernear import stands, texts, towns
from evernear.errors import NearError
from tests.samples import LINE, TOWN

ROW = [(0, 2), (1, 2), (0, 2)]
BY_ONE = {"rule": "one", "reach": 3}
BY_ALL = {"rule": "all", "reach": 3}

CALLS_OF_FUNCTIONS = [
    (towns.check_town, [TOWN], {}),
    (towns.check_town, [(4, [(0, 2, 1), (0, 1, 1)])], {}),
    (towns.ways, [TOWN], {}),
    (towns.way, [TOWN, 0, 3], {}),
    (towns.is_one_piece, [TOWN], {}),
    (towns.within, [TOWN, 0], {"reach": 5}),
    (towns.without_road, [TOWN, 1], {}),
    (towns.with_road, [TOWN, (1, 3, 9)], {}),
    (towns.with_road, [TOWN, (0, 1, 9)], {}),
    (towns.with_road, [TOWN, ([], [1], 9)], {}),
    (towns.matters, [TOWN, 1], {}),
    (stands.stands_of, [TOWN, 2], {}),
    (stands.move_length, [TOWN, (0, 2), (1, 3)], {"reach": 3}),
    (stands.answers, [TOWN, (0, 2), 1], BY_ONE),
    (stands.answers, [TOWN, (0, 2), 2], BY_ONE),
    (stands.answers, [TOWN, (0, 2), 1], BY_ALL),
    (stands.can_answer, [LINE, (0, 2), 1], BY_ALL),
    (stands.is_answered, [TOWN, ROW, [1, 0]], BY_ONE),
    (stands.is_answered, [TOWN, ROW, [1, 0]], BY_ALL),
    (texts.write_town, [TOWN], {}),
    (texts.read_town, [texts.write_town(TOWN)], {}),
    (texts.write_calls, [[1, 0]], {}),
    (texts.read_calls, [TOWN, "calls 1 0\n"], {}),
    (texts.diary, [TOWN, ROW, [1, 0]], BY_ONE),
    (texts.diary, [TOWN, ROW, [1, 0]], BY_ALL),
]


def told(act, args, more):
    """What a call returns, or the class and the fields of what it raises."""
    try:
        return act(*args, **more)
    except NearError as error:
        return (error.__class__.__name__, vars(error))


def spoil(value):
    """Change every list within a value."""
    if isinstance(value, (list, tuple)):
        for part in value:
            spoil(part)
    if isinstance(value, list):
        value.append("spoilt")
        value.reverse()


class Unchanged(unittest.TestCase):
    def test_what_is_handed_in_stays_as_it_was(self):
        for act, args, more in CALLS_OF_FUNCTIONS:
            args, more = deepcopy(args), deepcopy(more)
            kept = repr((args, more))
            told(act, args, more)
            self.assertEqual(repr((args, more)), kept, act.__name__)

    def test_changing_what_was_returned_changes_nothing_else(self):
        for act, args, more in CALLS_OF_FUNCTIONS:
            args, more = deepcopy(args), deepcopy(more)
            kept = repr((args, more))
            first = told(act, args, more)
            expected = deepcopy(first)
            spoil(first)
            self.assertEqual(repr((args, more)), kept, act.__name__)
            self.assertEqual(told(act, args, more), expected, act.__name__)

    def test_no_list_is_returned_twice_in_one_value(self):
        table = towns.ways(TOWN)
        table[0].append("spoilt")
        self.assertEqual([len(row) for row in table], [5, 4, 4, 4])


if __name__ == "__main__":
    unittest.main()
