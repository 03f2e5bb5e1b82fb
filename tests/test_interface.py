"""The interface: names, arguments and the files that define them, and the document's examples."""

import doctest
import inspect
import os
import unittest

from evernear import errors, stands, texts, towns
from evernear.errors import BadText
from evernear.stands import answers, move_length
from evernear.texts import diary, read_calls, read_town, write_calls
from evernear.towns import matters, way, within

SIGNATURES = {
    errors: {"BadRoad": "(at)", "BadText": "(line, column)", "BadCall": "(at)", "BadEntry": "(at)"},
    towns: {
        "check_town": "(town)",
        "ways": "(town)",
        "way": "(town, first, second)",
        "is_one_piece": "(town)",
        "within": "(town, place, *, reach)",
        "without_road": "(town, at)",
        "with_road": "(town, road)",
        "matters": "(town, at)",
    },
    stands: {
        "stands_of": "(town, helpers)",
        "move_length": "(town, first, second, *, reach=60)",
        "answers": "(town, stand, call, *, rule, reach)",
        "can_answer": "(town, stand, call, *, rule, reach)",
        "is_answered": "(town, stands, calls, *, rule, reach)",
    },
    texts: {
        "write_town": "(town)",
        "read_town": "(text)",
        "write_calls": "(calls)",
        "read_calls": "(town, text)",
        "diary": "(town, stands, calls, *, rule, reach)",
    },
}


class Interface(unittest.TestCase):
    def test_names_and_arguments(self):
        for module, listed in SIGNATURES.items():
            for name, signature in listed.items():
                self.assertEqual(str(inspect.signature(getattr(module, name))), signature, name)

    def test_each_is_defined_in_its_file(self):
        for module, listed in SIGNATURES.items():
            for name in listed:
                self.assertEqual(getattr(module, name).__module__, module.__name__, name)

    def test_arguments_can_be_told_by_their_names(self):
        town = (2, [(0, 1, 3)])
        self.assertEqual(towns.way(second=1, first=0, town=town), 3)
        self.assertEqual(stands.answers(reach=3, rule="one", call=1, stand=(0,), town=town), [((1,), 3)])
        self.assertEqual(texts.read_calls(text="calls 1\n", town=town), [1])

    def test_arguments_behind_the_star_are_told_by_their_names_alone(self):
        town = (2, [(0, 1, 3)])
        for act, args in [
            (towns.within, (town, 0, 3)),
            (stands.move_length, (town, (0,), (1,), 3)),
            (stands.answers, (town, (0,), 1, "one", 3)),
            (stands.can_answer, (town, (0,), 1, "one", 3)),
            (stands.is_answered, (town, [(0,)], [], "one", 3)),
            (texts.diary, (town, [(0,)], [], "one", 3)),
        ]:
            with self.assertRaises(TypeError):
                act(*args)


class Examples(unittest.TestCase):
    TOWN = (4, [(0, 1, 2), (0, 2, 9), (1, 2, 3), (2, 3, 1)])

    def test_towns(self):
        town = self.TOWN
        self.assertEqual((way(town, 0, 3), within(town, 0, reach=5), matters(town, 1)), (6, [0, 1, 2], False))

    def test_stands(self):
        town = self.TOWN
        self.assertEqual(answers(town, (0, 2), 1, rule="one", reach=3), [((0, 1), 3), ((1, 2), 2)])
        self.assertEqual(
            answers(town, (0, 2), 1, rule="all", reach=3),
            [((0, 1), 3), ((1, 1), 5), ((1, 2), 2), ((1, 3), 3)],
        )
        self.assertEqual(move_length(town, (0, 2), (1, 3)), 3)
        self.assertIsNone(move_length(town, (0, 2), (1, 3), reach=1))

    def test_texts(self):
        town = read_town("places 4\nroad 0 1 2\nroad 0 2 9\nroad 1 2 3\nroad 2 3 1\n")
        self.assertEqual(town, self.TOWN)
        self.assertEqual((read_calls(town, "calls 1 0\n"), write_calls([])), ([1, 0], "calls\n"))
        self.assertEqual(
            diary(town, [(0, 2), (1, 2), (0, 2)], [1, 0], rule="one", reach=3),
            "call 1 from 0 2 to 1 2 way 2\ncall 0 from 1 2 to 0 2 way 2\nway 4\n",
        )
        with self.assertRaises(BadText) as caught:
            read_town("places 4\nroad  1 2\n")
        self.assertEqual((caught.exception.line, caught.exception.column), (2, 6))

    def test_the_readme(self):
        path = os.path.join(os.path.dirname(__file__), os.pardir, "README.md")
        failed, tried = doctest.testfile(path, module_relative=False)
        self.assertEqual(failed, 0)
        self.assertGreater(tried, 0)


if __name__ == "__main__":
    unittest.main()
