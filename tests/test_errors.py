"""The refusals of the interface: what each stands under, and what it keeps."""

import unittest

from hotpass import errors

STRAIGHT_UNDER = {
    "BadMetal": ValueError, "BadGang": ValueError, "BadText": ValueError, "BadRow": ValueError,
    "BadDeed": TypeError, "NoGang": KeyError, "NoTelling": KeyError, "KnownGang": LookupError,
    "NoKind": IndexError, "NoPiece": IndexError, "TooQuick": ArithmeticError,
    "Lacks": ArithmeticError, "TooMany": OverflowError, "Begun": RuntimeError,
}

THINGS = (
    "full", "", 0, 7, -1, 10 ** 12, 10 ** 5000, True, False, None, (), (7, 2), [], [1, [2, "x"]],
    ("put", "ann", [None]), {"a": 1}, object(),
)


def made(name, *args, **named):
    return getattr(errors, name)(*args, **named)


class RefusalTest(unittest.TestCase):
    def test_there_are_fourteen(self):
        defined = [name for name, thing in vars(errors).items() if isinstance(thing, type)]
        self.assertEqual(sorted(defined), sorted(STRAIGHT_UNDER))
        self.assertEqual(len(STRAIGHT_UNDER), 14)

    def test_straight_under(self):
        for name, above in STRAIGHT_UNDER.items():
            with self.subTest(name):
                self.assertEqual(getattr(errors, name).__bases__, (above,))

    def test_keeps_what_it_was_made_with(self):
        for name in STRAIGHT_UNDER:
            if name == "Lacks":
                continue
            for thing in THINGS:
                with self.subTest(name):
                    self.assertIs(made(name, thing).what, thing)
                    self.assertIs(made(name, what=thing).what, thing)

    def test_lacks_keeps_both(self):
        for places in THINGS:
            for many in THINGS:
                refusal = errors.Lacks(places, many)
                self.assertIs(refusal.places, places)
                self.assertIs(refusal.many, many)
                refusal = errors.Lacks(many=many, places=places)
                self.assertIs(refusal.places, places)
                self.assertIs(refusal.many, many)

    def test_each_is_raised_and_caught_by_the_class_above(self):
        for name, above in STRAIGHT_UNDER.items():
            args = ((), 1) if name == "Lacks" else ("x",)
            with self.subTest(name), self.assertRaises(above) as caught:
                raise made(name, *args)
            self.assertEqual(caught.exception.__class__.__name__, name)

    def test_made_with_all_of_its_arguments_alone(self):
        for name in STRAIGHT_UNDER:
            with self.subTest(name):
                self.assertRaises(TypeError, getattr(errors, name))
                self.assertRaises(TypeError, getattr(errors, name), 1, 2, 3)


if __name__ == "__main__":
    unittest.main()
