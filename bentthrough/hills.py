"""Hills: their values at places, and where they stand."""

from bentthrough.errors import InvalidIndex, InvalidNumber
from bentthrough.frames import check_frame
from bentthrough.kinds import ONE, ZERO, is_integer_within, plus, reduced, times
from bentthrough.limits import MOST_KNOT


def check_hill(frame, hill):
    """Raises InvalidIndex unless this is the number of a hill of the frame."""
    if not is_integer_within(hill, 0, frame.hills - 1):
        raise InvalidIndex(hill)


def check_place(place):
    """Raises InvalidNumber unless this is a place."""
    if not is_integer_within(place, 0, MOST_KNOT):
        raise InvalidNumber(place)


def value(frame, hill, place):
    """The value of a hill at a place."""
    check_frame(frame)
    check_hill(frame, hill)
    check_place(place)
    return values_at(frame, place)[hill]


def values_at(frame, place):
    """The list of the values of all hills at the place."""
    return _values_over(frame.degree, frame.knots, place)


def values_at_fraction(frame, x):
    """The list of the values of all hills at a fraction."""
    top, bottom = x
    # The values stay as they are if all knots and x are multiplied by one number, which here makes x an integer.
    return _values_over(frame.degree, [knot * bottom for knot in frame.knots], top)


def _values_over(degree, knots, place):
    """The list of the values, at an integer, of all hills of this degree over these knots."""
    found = [_flat_value(knots, index, place) for index in range(len(knots) - 1)]
    for width in range(2, degree + 2):
        found = [_bent_value(knots[at:at + width + 1], found[at:at + 2], place) for at in range(len(found) - 1)]
    return found


def _flat_value(knots, index, place):
    """The value of the hill of degree 0 that belongs to the knot with this index and the next one."""
    low, high = knots[index], knots[index + 1]
    return ONE if low <= place < high or low < place == high == knots[-1] else ZERO


def _bent_value(knots, lower, place):
    """The value of the hill with these knots from those of the two hills of one degree less at the same knots."""
    rising = _part(place - knots[0], knots[-2] - knots[0], lower[0])
    falling = _part(knots[-1] - place, knots[-1] - knots[1], lower[1])
    return plus(rising, falling)


def _part(top, bottom, worth):
    """The fraction times top over bottom."""
    # Where the bottom is 0, the hill of one degree less has no width, and so its value is 0.
    return times(reduced(top, bottom), worth) if worth != ZERO else ZERO


def stands(frame, hill, place):
    """Whether the hill's value at the place is above 0."""
    check_frame(frame)
    check_hill(frame, hill)
    check_place(place)
    return stands_there(frame, hill, place)


def stands_there(frame, hill, place):
    """What `stands` tells, of arguments that are checked."""
    first, last = standing_range(frame, hill)
    return first <= place <= last


def standing_range(frame, hill):
    """The first and the last integer at which the hill stands; if there is none, the first one is greater."""
    knots, end = frame.knots, hill + frame.degree + 1
    first = knots[hill] if knots[hill] == knots[end - 1] else knots[hill] + 1
    last = knots[end] if knots[hill + 1] == knots[-1] else knots[end] - 1
    return first, last


def standing(frame, place):
    """The hills that stand at the place, ascending."""
    check_frame(frame)
    check_place(place)
    return tuple([hill for hill in range(frame.hills) if stands_there(frame, hill, place)])
