"""Things of every kind that may be passed where an error is told, and what tests ask of the errors."""

from bentthrough.frames import Frame


class Stranger:
    """An object that claims to equal everything."""

    def __eq__(self, other):
        return True

    __hash__ = None


class Blank:
    """An object without anything."""


NO_INTEGERS = (None, True, False, "", "1", b"", b"1", (), (1,), [], [1], {}, {1: 2}, set(), {1}, frozenset(), range(3),
               int, len, object(), Blank(), Stranger(), ValueError("1"))
NO_TUPLES = (None, True, False, 0, 7, "", "0 2 4", b"02", [], [0, 2, 4], {}, {0: 2}, {0, 2, 4}, frozenset((0, 2, 4)),
             range(3), tuple, len, object(), Blank(), Stranger())
NO_STRINGS = (None, True, False, 0, 7, b"", b"degree 1 knots 0 2 4 6", (), ("degree 1 knots 0 2 4 6",), [],
              ["degree 1 knots 0 2 4 6"], {}, {"degree 1 knots 0 2 4 6"}, str, len, object(), Blank(), Stranger())
NO_FRAMES = (None, True, 0, 1, "", "degree 1 knots 0 2 4 6", b"", (), (1, (0, 2, 4, 6)), [], [1, (0, 2, 4, 6)], {},
             set(), Frame, object(), Blank(), Stranger())


def caught(case, error_class, action):
    """The error that the action raises, which is of just this class."""
    with case.assertRaises(error_class) as held:
        action()
    case.assertIs(held.exception.__class__, error_class)
    return held.exception


def check_given(case, error_class, given, action):
    """Fails the case unless the action raises this class with the very thing as `given`."""
    error = caught(case, error_class, action)
    case.assertIs(error.given, given)


def check_index(case, error_class, index, action):
    """Fails the case unless the action raises this class with this index, which is None or an integer."""
    error = caught(case, error_class, action)
    case.assertEqual((error.index, error.index.__class__), (index, index.__class__))
