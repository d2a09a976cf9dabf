"""The curves that are nearest to heights that none need go through."""

from bentthrough.curves import Curve
from bentthrough.errors import NotOne
from bentthrough.frames import check_frame
from bentthrough.hills import values_at
from bentthrough.kinds import plus, sum_of_products
from bentthrough.matches import check_places, rank_of
from bentthrough.meeting import check_heights, solution


def nearest(frame, places, heights):
    """The curve with the least sum of squares of the differences between its values and the heights."""
    check_frame(frame)
    check_places(places)
    check_heights(places, heights)
    free = rank_of(frame, places)
    if free < frame.hills:
        raise NotOne(free)
    return Curve(frame, tuple(_nearest_amounts(_value_rows(frame, places), heights)))


def miss(frame, places, heights):
    """The least sum of squares of the differences between the values of a curve and the heights."""
    check_frame(frame)
    check_places(places)
    check_heights(places, heights)
    rows = _value_rows(frame, places)
    amounts = _nearest_amounts(rows, heights)
    differences = [plus(sum_of_products(row, amounts), (-height, 1)) for row, height in zip(rows, heights)]
    return sum_of_products(differences, differences)


def _value_rows(frame, places):
    """For each place the list of the values of all hills."""
    return [values_at(frame, place) for place in places]


def _nearest_amounts(rows, heights):
    """Amounts of a curve, with these values of its hills, that is nearest to the heights."""
    # It is nearest exactly if the differences are at right angles to the values of each hill; some curve always is.
    columns = [list(column) for column in zip(*rows)]
    products = [[sum_of_products(one, other) for other in columns] for one in columns]
    aims = [sum_of_products(column, [(height, 1) for height in heights]) for column in columns]
    return solution(products, aims)
