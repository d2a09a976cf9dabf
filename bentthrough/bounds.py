"""What holds for all rows of places, and for all heights, between lower and upper bounds."""

from bentthrough.errors import InvalidHeights, InvalidPlaces
from bentthrough.frames import check_frame
from bentthrough.hills import check_place, stands_there, standing_range, values_at
from bentthrough.kinds import is_integer_within, sum_of_products
from bentthrough.limits import MOST_HEIGHT, MOST_KNOT
from bentthrough.matches import check_places
from bentthrough.meeting import check_just_one, solution


def _check_place_bounds(frame, lows, highs):
    """Raises InvalidPlaces unless these are bounds of a place for each hill."""
    for row, least in ((lows, (0,) * frame.hills), (highs, lows)):
        if not isinstance(row, tuple) or len(row) != frame.hills:
            raise InvalidPlaces(None)
        index = _first_outside(row, least, MOST_KNOT)
        if index is not None:
            raise InvalidPlaces(index)


def _check_height_bounds(places, lows, highs):
    """Raises InvalidHeights unless these are bounds of a height for each place."""
    for row, least in ((lows, (-MOST_HEIGHT,) * len(places)), (highs, lows)):
        if not isinstance(row, tuple) or len(row) != len(places):
            raise InvalidHeights(None)
        index = _first_outside(row, least, MOST_HEIGHT)
        if index is not None:
            raise InvalidHeights(index)


def _first_outside(row, least, most):
    """The index of the first element that is no integer from the least one for its index on; None if there is none."""
    for index, element in enumerate(row):
        if not is_integer_within(element, least[index], most):
            return index
    return None


def always_one(frame, lows, highs):
    """Whether just one curve goes through all heights at each ascending row of places between the bounds."""
    check_frame(frame)
    _check_place_bounds(frame, lows, highs)
    least, greatest = _least_row(lows), _greatest_row(highs)
    if not _is_nowhere_above(least, greatest):
        return True
    # Each integer from the least to the greatest one stands in some row, and hills stand at what is between such.
    return all([stands_there(frame, hill, row[hill]) for row in (least, greatest) for hill in range(frame.hills)])


def some_row(frame, lows, highs):
    """The least ascending row of places between the bounds at which, for all heights, just one curve goes; or None."""
    check_frame(frame)
    _check_place_bounds(frame, lows, highs)
    ranges = [standing_range(frame, hill) for hill in range(frame.hills)]
    least = _least_row([max(low, first) for low, (first, _) in zip(lows, ranges)])
    most = [min(high, last) for high, (_, last) in zip(highs, ranges)]
    return tuple(least) if _is_nowhere_above(least, most) else None


def _least_row(lows):
    """The ascending row of integers none of which can be less if none is below its bound."""
    found = []
    for low in lows:
        found.append(max(low, found[-1] + 1) if found else low)
    return found


def _greatest_row(highs):
    """The ascending row of integers none of which can be greater if none is above its bound."""
    return [-low for low in _least_row([-high for high in reversed(highs)])][::-1]


def _is_nowhere_above(row, most):
    """Whether each number is at most the one with its index in the other row."""
    return all([number <= bound for number, bound in zip(row, most)])


def range_at(frame, places, lows, highs, place):
    """The least and the greatest value at the place of the curves through heights between the bounds."""
    check_frame(frame)
    check_places(places)
    _check_height_bounds(places, lows, highs)
    check_place(place)
    check_just_one(frame, places)
    shares = _shares(frame, places, place)
    bounds = [(low, high) if share[0] > 0 else (high, low) for share, low, high in zip(shares, lows, highs)]
    least = sum_of_products(shares, [(low, 1) for low, _ in bounds])
    greatest = sum_of_products(shares, [(high, 1) for _, high in bounds])
    return least, greatest


def _shares(frame, places, place):
    """The fractions of the heights at the places that make, together, the value at the place."""
    rows = [values_at(frame, other) for other in places]
    columns = [list(column) for column in zip(*rows)]
    return solution(columns, values_at(frame, place))
