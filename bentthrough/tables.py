"""Tables of two ways: sums of the products of a hill of one frame and a hill of another one."""

from bentthrough.curves import check_amounts
from bentthrough.errors import InvalidAmounts, InvalidHeights
from bentthrough.frames import check_frame
from bentthrough.hills import check_place, values_at
from bentthrough.kinds import sum_of_products
from bentthrough.matches import all_met, check_places
from bentthrough.meeting import check_heights, solution


def table_met(frame, places, other, others):
    """Whether for all tables some table curve has these values at all pairs of places."""
    _check_both_ways(frame, places, other, others)
    return all_met(frame, places) and all_met(other, others)


def _check_both_ways(frame, places, other, others):
    """The checks of two frames, each with its places."""
    check_frame(frame)
    check_places(places)
    check_frame(other)
    check_places(others)


def table_through(frame, places, other, others, table):
    """The rows of amounts of a table curve with these values at all pairs of places, None if there is none."""
    _check_both_ways(frame, places, other, others)
    _check_table(places, others, table)
    # First curves of the one frame through each column of the table, then curves of the other one through the rows of
    # their amounts. If there is a table curve at all, the columns are sums of such curves' values, and so the amounts
    # that are found for them are sums of the same kind as the rows of the table.
    columns = [[(row[index], 1) for row in table] for index in range(len(others))]
    found = _amounts_through(frame, places, columns)
    if found is None:
        return None
    found = _amounts_through(other, others, [list(row) for row in zip(*found)])
    return None if found is None else tuple([tuple(row) for row in found])


def _amounts_through(frame, places, rows):
    """For each row of heights, which are fractions, amounts of a curve that goes through them; None if one has none."""
    values = [values_at(frame, place) for place in places]
    found = [solution(values, row) for row in rows]
    return None if None in found else found


def _check_table(places, others, table):
    """Raises InvalidHeights unless this is a row of heights at the other places for each place."""
    if not isinstance(table, tuple) or len(table) != len(places):
        raise InvalidHeights(None)
    for index, row in enumerate(table):
        try:
            check_heights(others, row)
        except InvalidHeights:
            raise InvalidHeights(index) from None


def table_value(frame, other, amounts, place, spot):
    """The value of the table curve with these rows of amounts at the place and the spot."""
    check_frame(frame)
    check_frame(other)
    _check_amount_rows(frame, other, amounts)
    check_place(place)
    check_place(spot)
    across = values_at(other, spot)
    return sum_of_products(values_at(frame, place), [sum_of_products(row, across) for row in amounts])


def _check_amount_rows(frame, other, amounts):
    """Raises InvalidAmounts unless these are amounts of a curve of the other frame for each hill of the frame."""
    if not isinstance(amounts, tuple) or len(amounts) != frame.hills:
        raise InvalidAmounts(None)
    for index, row in enumerate(amounts):
        try:
            check_amounts(other, row)
        except InvalidAmounts:
            raise InvalidAmounts(index) from None
