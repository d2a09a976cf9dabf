"""Curves through heights at places, and what bars them where there is none."""

from math import gcd, lcm

from bentthrough.curves import Curve
from bentthrough.errors import InvalidHeights, InvalidIndex, NotOne
from bentthrough.frames import check_frame
from bentthrough.hills import values_at
from bentthrough.kinds import ONE, ZERO, is_integer_within, reduced
from bentthrough.limits import MOST_HEIGHT
from bentthrough.matches import check_places, rank_of


def check_heights(places, heights):
    """Raises InvalidHeights unless these are heights for the places."""
    if not isinstance(heights, tuple) or len(heights) != len(places):
        raise InvalidHeights(None)
    for index, height in enumerate(heights):
        if not is_integer_within(height, -MOST_HEIGHT, MOST_HEIGHT):
            raise InvalidHeights(index)


def curve_through(frame, places, heights):
    """A curve that goes through the heights at the places, None if there is none."""
    check_frame(frame)
    check_places(places)
    check_heights(places, heights)
    return curve_with(frame, places, heights)


def curve_with(frame, places, heights):
    """What `curve_through` gives, of arguments that are checked."""
    amounts = solution([values_at(frame, place) for place in places], [(height, 1) for height in heights])
    return None if amounts is None else Curve(frame, tuple(amounts))


def bar(frame, places, heights):
    """Weights that bar the heights, without a common divisor above 1; None if a curve goes through them."""
    check_frame(frame)
    check_places(places)
    check_heights(places, heights)
    many, units = frame.hills, _units(len(places))
    rows = [[*values_at(frame, place), (height, 1), *unit] for place, height, unit in zip(places, heights, units)]
    cleared, columns = eliminated(rows, many)
    for row in cleared[len(columns):]:
        if row[many] != 0:
            return tuple(_without_common(row[many + 1:]))
    return None


def _units(many):
    """So many rows of so many fractions, one of them 1 and the others 0."""
    return [[ONE if at == index else ZERO for at in range(many)] for index in range(many)]


def nothing_at(frame, places):
    """Curves that are 0 at all places, of which all such curves are sums of multiples in one way alone."""
    check_frame(frame)
    check_places(places)
    found = vanishing_rows([values_at(frame, place) for place in places], frame.hills)
    return tuple([Curve(frame, tuple(amounts)) for amounts in found])


def vanishing_rows(rows, many):
    """Lists of so many fractions whose products with those of each row have the sum 0.

    All such lists are sums of multiples of these in one way alone: each of these has 1 where all others have 0.
    """
    cleared, columns = eliminated(rows, many)
    return [_vanishing(cleared, columns, free, many) for free in range(many) if free not in columns]


def _vanishing(cleared, columns, free, many):
    """The list with 1 in the column that is free, 0 in the others that are, and the sum 0 with each cleared row."""
    found = [ZERO] * many
    found[free] = ONE
    for row, column in zip(cleared, columns):
        found[column] = reduced(-row[free], row[column])
    return found


def lifted(frame, places, index):
    """The curve that goes through 1 at the place with this index and through 0 at the others."""
    check_frame(frame)
    check_places(places)
    if not is_integer_within(index, 0, len(places) - 1):
        raise InvalidIndex(index)
    check_just_one(frame, places)
    return curve_with(frame, places, tuple([1 if at == index else 0 for at in range(len(places))]))


def check_just_one(frame, places):
    """Raises NotOne unless for all heights just one curve goes through them at the places."""
    free = rank_of(frame, places)
    if not free == len(places) == frame.hills:
        raise NotOne(free)


def solution(rows, aims):
    """Fractions whose products with those of each row have the aim as their sum; None if there are none."""
    many = len(rows[0])
    cleared, columns = eliminated([[*row, aim] for row, aim in zip(rows, aims)], many)
    if any([row[many] != 0 for row in cleared[len(columns):]]):
        return None
    amounts = [ZERO] * many
    for row, column in zip(cleared, columns):
        amounts[column] = reduced(row[many], row[column])
    return amounts


def eliminated(rows, many):
    """The rows, multiplied to integers and taken off one another, and ascending columns, one for each of the first.

    Among the first `many` items each of these columns has just one other than 0, in the row that it belongs to; the
    rows behind these have none at all there.
    """
    found = [whole_numbers(row) for row in rows]
    columns = []
    for column in range(many):
        done = len(columns)
        heads = [at for at in range(done, len(found)) if found[at][column] != 0]
        if heads:
            found[done], found[heads[0]] = found[heads[0]], found[done]
            found = [row if at == done else _taken_off(row, found[done], column) for at, row in enumerate(found)]
            columns.append(column)
    return found, columns


def whole_numbers(row):
    """The fractions times one number above 0, which makes them integers without a common divisor above 1."""
    common = 1
    for _, bottom in row:
        common = lcm(common, bottom)
    return _without_common([top * (common // bottom) for top, bottom in row])


def _taken_off(row, head, column):
    """A multiple of the row, less as much of the head as makes the item in this column 0."""
    if row[column] == 0:
        return row
    return _without_common([head[column] * one - row[column] * other for one, other in zip(row, head)])


def _without_common(numbers):
    """The integers divided by their greatest common divisor."""
    common = 0
    for number in numbers:
        common = gcd(common, number)
    return numbers if common == 0 else [number // common for number in numbers]
