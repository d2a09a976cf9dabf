"""At which places a curve is told already by its values at others, and which further places would tell all."""

from bentthrough.frames import check_frame
from bentthrough.hills import check_place
from bentthrough.limits import MOST_KNOT, MOST_PLACES
from bentthrough.matches import check_places, rank_of
from bentthrough.meeting import check_heights, curve_with


def told_at(frame, places):
    """The pairs (first, last) of the longest stretches of integers all of which are told by the places."""
    check_frame(frame)
    check_places(places)
    found = []
    for first, last in _even_stretches(frame, places):
        if _is_told(frame, places, first):
            if found and found[-1][1] == first - 1:
                found[-1] = (found[-1][0], last)
            else:
                found.append((first, last))
    return tuple(found)


def _even_stretches(frame, places):
    """Stretches (first, last) from 0 to the greatest place; the places tell all integers of one, or none of them."""
    # Between neighbouring knots and places the same hills stand at all integers.
    marks = sorted(set([0, MOST_KNOT, *frame.knots, *places]))
    found = []
    for mark, following in zip(marks, marks[1:]):
        found.append((mark, mark))
        if mark + 1 < following:
            found.append((mark + 1, following - 1))
    return [*found, (MOST_KNOT, MOST_KNOT)]


def _is_told(frame, places, place):
    """Whether all curves with the same values at the places have the same value at this one."""
    if place in places:
        return True
    return rank_of(frame, sorted([*places, place])) == rank_of(frame, places)


def sure_value(frame, places, heights, place):
    """The value at the place of all curves through the heights; None if there is none, or more than one value."""
    check_frame(frame)
    check_places(places)
    check_heights(places, heights)
    check_place(place)
    if not _is_told(frame, places, place):
        return None
    curve = curve_with(frame, places, heights)
    return None if curve is None else curve.value(place)


def fewest_more(frame, places):
    """The least tuple of further places with which all integers are told; None if these are too many together."""
    check_frame(frame)
    check_places(places)
    known, more = list(places), []
    # Each place makes the rank greater by 1 at most, so the least one that is not told is always worth its place.
    place = _first_not_told(frame, known)
    while place is not None:
        known, more = sorted([*known, place]), [*more, place]
        place = _first_not_told(frame, known)
    return tuple(more) if len(known) <= MOST_PLACES else None


def _first_not_told(frame, places):
    """The least integer from 0 on that the places do not tell, None if they tell all places."""
    for first, _ in _even_stretches(frame, places):
        if not _is_told(frame, places, first):
            return first
    return None
