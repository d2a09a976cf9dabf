"""The section `bentthrough/errors.py` of the document, and what [4] says of the classes of errors."""

import unittest

from anything import NO_INTEGERS, NO_STRINGS, NO_TUPLES
from bentthrough import errors

BASES = {"NotRight": ValueError, "NotKnown": LookupError, "NotPossible": ArithmeticError}
CLASSES = (
    ("InvalidText", "NotRight", ("given",)), ("InvalidNumber", "NotRight", ("given",)),
    ("InvalidName", "NotRight", ("given",)), ("InvalidIndex", "NotRight", ("given",)),
    ("InvalidDegree", "NotRight", ("given",)), ("InvalidKnot", "NotRight", ("given",)),
    ("InvalidClaim", "NotRight", ("given",)), ("InvalidCommand", "NotRight", ("given",)),
    ("NotAFrame", "NotRight", ("given",)), ("NotACurve", "NotRight", ("given",)),
    ("InvalidKnots", "NotRight", ("index",)), ("InvalidAmounts", "NotRight", ("index",)),
    ("InvalidPlaces", "NotRight", ("index",)), ("InvalidHeights", "NotRight", ("index",)),
    ("InvalidOffers", "NotRight", ("index",)),
    ("UnknownName", "NotKnown", ("given",)), ("InUse", "NotKnown", ("index",)), ("NothingToUndo", "NotKnown", ()),
    ("TooMany", "NotPossible", ("limit",)), ("NotOne", "NotPossible", ("rank",)),
    ("Broken", "NotPossible", ("index", "shown")),
)
THINGS = (*NO_INTEGERS, *NO_TUPLES, *NO_STRINGS, -1, 10 ** 60, "x" * 8000, ((1, (2, [3])),))


def made_by_position(name, things):
    return getattr(errors, name)(*things)


def made_by_name(name, attributes, things):
    return getattr(errors, name)(**dict(zip(attributes, things)))


class ErrorsTest(unittest.TestCase):
    def check_kept(self, error, attributes, things):
        self.assertEqual(list(vars(error)), list(attributes))
        for attribute, thing in zip(attributes, things):
            self.assertIs(getattr(error, attribute), thing)

    def test_keeps_what_is_passed_by_position(self):
        for name, _, attributes in CLASSES:
            for thing in THINGS:
                things = [thing, object()][:len(attributes)]
                with self.subTest(name=name, thing=thing):
                    self.check_kept(made_by_position(name, things), attributes, things)

    def test_keeps_what_is_passed_by_name(self):
        for name, _, attributes in CLASSES:
            for thing in THINGS:
                things = [thing, object()][:len(attributes)]
                with self.subTest(name=name, thing=thing):
                    self.check_kept(made_by_name(name, attributes, things), attributes, things)

    def test_order_of_two_attributes(self):
        error = errors.Broken(3, 1)
        self.assertEqual((error.index, error.shown), (3, 1))
        error = errors.Broken(shown=None, index=0)
        self.assertEqual((error.index, error.shown), (0, None))
        error = errors.Broken(2, shown=5)
        self.assertEqual((error.index, error.shown), (2, 5))

    def test_attributes_cannot_be_left_out(self):
        for name, _, attributes in CLASSES:
            if attributes:
                with self.subTest(name=name), self.assertRaises(TypeError):
                    getattr(errors, name)()

    def test_changes_nothing_that_is_passed(self):
        things = [1, [2]]
        errors.InvalidText(things)
        errors.Broken(things, things)
        self.assertEqual(things, [1, [2]])

    def test_each_is_caught_by_its_bases(self):
        for name, base, attributes in CLASSES:
            for caught in (getattr(errors, name), getattr(errors, base), BASES[base]):
                with self.subTest(name=name, caught=caught):
                    error = made_by_position(name, [1, 2][:len(attributes)])
                    with self.assertRaises(caught) as held:
                        raise error
                    self.assertIs(held.exception, error)

    def test_each_is_under_its_base_alone(self):
        names = [name for name, _, _ in CLASSES] + list(BASES)
        for name, base, _ in CLASSES:
            above = [other for other in names if issubclass(getattr(errors, name), getattr(errors, other))]
            with self.subTest(name=name):
                self.assertEqual(sorted(above), sorted([name, base]))

    def test_bases_are_under_python_s_class_alone(self):
        for name, python_class in BASES.items():
            with self.subTest(name=name):
                self.assertEqual(getattr(errors, name).__bases__, (python_class,))

    def test_there_are_no_other_classes_between(self):
        for name, base, _ in CLASSES:
            with self.subTest(name=name):
                self.assertEqual(getattr(errors, name).__bases__, (getattr(errors, base),))

    def test_errors_are_true_and_equal_themselves_alone(self):
        for name, _, attributes in CLASSES:
            first, second = (made_by_position(name, [0, 0][:len(attributes)]) for _ in range(2))
            with self.subTest(name=name):
                self.assertTrue(first)
                self.assertTrue(first == first)
                self.assertFalse(first != first)
                self.assertFalse(first == second)
                self.assertTrue(first != second)

    def test_each_is_defined_in_its_file(self):
        for name in [name for name, _, _ in CLASSES] + list(BASES):
            self.assertEqual(getattr(errors, name).__module__, "bentthrough.errors")


if __name__ == "__main__":
    unittest.main()
