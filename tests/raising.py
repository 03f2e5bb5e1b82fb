"""What the tests of errors share."""

from evernear.errors import NearError


class Raising:
    """For a TestCase: an error must be of just this class, with just these fields."""

    def assert_raises_just(self, kind, fields, act, *args, **more):
        with self.assertRaises(NearError, msg=f"{args!r} {more!r}") as caught:
            act(*args, **more)
        error = caught.exception
        told = f"{args!r} {more!r} raised {error!r}"
        self.assertIs(error.__class__, kind, told)
        self.assertIsInstance(error, ValueError)
        self.assertEqual(vars(error), fields, told)
        for value in vars(error).values():
            self.assertIs(value.__class__, int, told)
