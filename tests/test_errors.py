"""The errors: their classes, what they are made with, and their fields."""

import unittest

from evernear import errors

PLAIN = [
    "BadSize", "BadNumber", "BadStand", "BadPlace", "NoAnswer", "NotAnswer", "NoRoad", "NothingToUndo",
    "NothingToRedo",
]
WITH_AT = ["BadRoad", "BadCall", "BadEntry"]


class Errors(unittest.TestCase):
    def made(self):
        found = {name: getattr(errors, name)() for name in PLAIN}
        found.update({name: getattr(errors, name)(3) for name in WITH_AT})
        found["BadText"] = errors.BadText(2, 6)
        return found

    def test_base_class(self):
        self.assertEqual(errors.NearError.__bases__, (ValueError,))

    def test_each_stands_directly_under_the_base(self):
        for name, error in self.made().items():
            self.assertEqual(error.__class__.__name__, name)
            self.assertEqual(error.__class__.__bases__, (errors.NearError,), name)
            self.assertEqual(error.__class__.__module__, "evernear.errors")

    def test_each_is_of_no_other_class_of_the_program(self):
        made = self.made()
        for name, error in made.items():
            of = [other for other in made if isinstance(error, getattr(errors, other))]
            self.assertEqual(of, [name])

    def test_fields(self):
        for name in WITH_AT:
            self.assertEqual(vars(getattr(errors, name)(5)), {"at": 5})
            self.assertEqual(getattr(errors, name)(at=0).at, 0)
        self.assertEqual(vars(errors.BadText(7, 9)), {"line": 7, "column": 9})
        named = errors.BadText(column=1, line=4)
        self.assertEqual((named.line, named.column), (4, 1))

    def test_no_further_class(self):
        classes = [name for name, value in vars(errors).items() if isinstance(value, type)]
        self.assertEqual(sorted(classes), sorted([*PLAIN, *WITH_AT, "BadText", "NearError"]))

    def test_they_can_be_raised_and_caught(self):
        for error in self.made().values():
            with self.assertRaises(errors.NearError) as caught:
                raise error
            self.assertIs(caught.exception, error)
            self.assertIsInstance(str(error), str)


if __name__ == "__main__":
    unittest.main()
