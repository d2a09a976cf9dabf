"""Wrong arguments with the errors that they raise, and calls with one of them or with two of them at once."""

from itertools import combinations

from anything import NO_FRAMES, NO_INTEGERS, NO_TUPLES, Blank, Stranger, caught
from bentthrough.curves import Curve
from bentthrough.errors import InvalidHeights, InvalidIndex, InvalidNumber, InvalidPlaces, NotACurve, NotAFrame
from bentthrough.frames import Frame

NO_CURVES = (None, True, 0, 7, "", "curve", b"", (), (Frame(0, (0, 1)), ((1, 1),)), [], {}, set(), Curve,
             Frame(0, (0, 1)), object(), Blank(), Stranger())
NO_FRACTIONS = (
    None, True, False, 0, 1, "", "12", b"12", (), (1,), (0,), (1, 2, 3), [0, 1], [1, 2], {1: 2}, {1, 2}, range(2),
    (0, 0), (1, 0), (-1, 0), (0, -1), (1, -1), (3, -2), (-3, -2), (0, 2), (0, 10 ** 59), (2, 2), (2, 4), (-2, 4),
    (6, 3), (10 ** 59, 10), (-6, 9), (True, 1), (1, True), (False, 1), (True, True), (True, 2), ("1", 1), (1, "1"),
    (None, 1), (1, None), ((1,), 1), (1, (1,)), ([1], 1), ((1, 1), (1, 1)), object(), Blank(), Stranger(),
)
NO_PLACE = (*NO_INTEGERS, -1, 10 ** 6 + 1, -10 ** 59, 10 ** 59)
NO_HEIGHT = (*NO_INTEGERS, 10 ** 20 + 1, -10 ** 20 - 1, 10 ** 59, -10 ** 59)


def given(error_class, things):
    """Rows (argument, class, attribute, what it tells) of an error that tells of the whole argument."""
    return [(thing, error_class, "given", thing) for thing in things]


def index(error_class, pairs):
    """Rows of an error that tells of the index of an element, or None, from pairs (argument, index)."""
    return [(thing, error_class, "index", told) for thing, told in pairs]


def elements(right, things):
    """Pairs (tuple, index): a right tuple in which each thing stands at each index once."""
    return [((*right[:at], thing, *right[at + 1:]), at) for at in range(len(right)) for thing in things]


def rows_of(many, things, right):
    """Pairs (argument, index) for a tuple of so many of what is right, of which all these things are none."""
    pairs = [(thing, None) for thing in NO_TUPLES]
    pairs += [((right,) * other, None) for other in (0, many - 1, many + 1, many + 30) if other >= 0]
    # A wrong number is asked ahead of the elements.
    pairs += [(("x",) * (many - 1), None), ((None,) * (many + 1), None)]
    pairs += elements((right,) * many, things)
    return pairs + [((right,) * at + (None,) * (many - at), at) for at in range(many)]


NO_ROW_OF_PLACES = (
    *[(thing, None) for thing in NO_TUPLES], ((), None),
    *elements((1, 3, 5), NO_PLACE), *elements((7,), NO_PLACE),
    *elements(tuple(range(12)), (-1, None, True, 10 ** 6 + 1)),
    ((1, 1), 1), ((0, 0), 1), ((3, 2), 1), ((0, 5, 5), 2), ((0, 5, 4), 2), ((5, 0, 6), 1), ((10 ** 6, 10 ** 6), 1),
    ((10 ** 6, 0), 1), ((10 ** 6, 10 ** 6 + 1), 1), ((*range(11), 10), 11), ((*range(11), 3), 11),
    # too many
    (tuple(range(13)), 12), (tuple(range(60)), 12), ((*range(12), None), 12), ((*range(12), 3), 12),
    ((*range(12), -1, -1), 12),
    # more than one wrong element
    ((5, 4, True), 1), ((True, 5, 4), 0), ((5, None, 4), 1), ((*range(11), 10, None), 11), ((1, 1, *range(2, 40)), 1),
    ((-1, *range(40)), 0), ((None,) * 13, 0), ((0, 10 ** 6 + 1, 5), 1),
)

FRAMES = given(NotAFrame, NO_FRAMES)
CURVES = given(NotACurve, NO_CURVES)
PLACE = given(InvalidNumber, NO_PLACE)
PLACES = index(InvalidPlaces, NO_ROW_OF_PLACES)


def heights(many):
    """Wrong heights for so many places."""
    return index(InvalidHeights, rows_of(many, NO_HEIGHT, 7))


def hills(many):
    """Wrong numbers of hills or indexes where there are so many."""
    return given(InvalidIndex, (*NO_INTEGERS, -1, many, many + 1, -many, 10 ** 59, -10 ** 59))


def check_error(case, action, arguments, error_class, attribute, told):
    """Fails the case unless the action raises this error, by position and by name, whatever the order of these."""
    by_name = dict(reversed(arguments.items()))
    for call in (lambda: action(*arguments.values()), lambda: action(**by_name)):
        found = getattr(caught(case, error_class, call), attribute)
        if attribute == "given":
            case.assertIs(found, told)
        else:
            case.assertEqual((found, found.__class__), (told, told.__class__))


def check_wrong(case, action, right, wrong):
    """Tries each wrong argument beside right ones, and each two of them: the earlier parameter's error is raised.

    `right` is a dict of the right arguments in the order of the parameters, `wrong` one of rows for each of them.
    """
    for name, rows in wrong.items():
        for thing, *error in rows:
            with case.subTest(parameter=name, thing=thing):
                check_error(case, action, {**right, name: thing}, *error)
    for one, other in combinations([name for name in right if name in wrong], 2):
        with case.subTest(one=one, other=other):
            for thing, *error in wrong[one]:
                for second, *_ in wrong[other]:
                    check_error(case, action, {**right, one: thing, other: second}, *error)


def check_last(case, action, arguments, error, wrong):
    """Tries arguments that raise this error, and then each wrong one among them, which is told ahead of it."""
    check_error(case, action, arguments, *error)
    for name, rows in wrong.items():
        for thing, *other in rows:
            with case.subTest(parameter=name, thing=thing):
                check_error(case, action, {**arguments, name: thing}, *other)


def check_ways(case, action, arguments):
    """Fails the case unless calls by position and by name, in any order, give the same; returns what they give."""
    found = action(*arguments.values())
    by_name = [action(**arguments), action(**dict(reversed(arguments.items())))]
    for other in by_name:
        case.assertEqual((other, other.__class__), (found, found.__class__))
    return found
