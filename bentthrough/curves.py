"""Curves: sums of hills, with their pieces, slopes and areas."""

from bentthrough.errors import InvalidAmounts, InvalidNumber, NotACurve
from bentthrough.frames import check_frame, stretches
from bentthrough.hills import check_place, values_at
from bentthrough.kinds import ZERO, is_fraction, plus, sum_of_products, times


class Curve:
    """A frame with an amount for each of its hills."""

    def __init__(self, frame, amounts):
        check_frame(frame)
        check_amounts(frame, amounts)
        self._frame = frame
        self._amounts = amounts

    @property
    def frame(self):
        """The frame, as it was passed."""
        return self._frame

    @property
    def amounts(self):
        """The amounts, as they were passed."""
        return self._amounts

    def value(self, place):
        """The sum of the amounts times the values of the hills at the place."""
        check_place(place)
        return sum_of_products(self._amounts, values_at(self._frame, place))

    def __eq__(self, other):
        return isinstance(other, Curve) and self._frame == other._frame and self._amounts == other._amounts


def check_amounts(frame, amounts):
    """Raises InvalidAmounts unless these are a fraction for each hill of the frame."""
    if not isinstance(amounts, tuple) or len(amounts) != frame.hills:
        raise InvalidAmounts(None)
    for index, amount in enumerate(amounts):
        if not is_fraction(amount):
            raise InvalidAmounts(index)


def check_curve(curve):
    """Raises NotACurve unless this is a curve."""
    if not isinstance(curve, Curve):
        raise NotACurve(curve)


def piece(curve, place):
    """The fractions by which the powers of x, from 0 on, make the curve from this place on to the next knot."""
    check_curve(curve)
    check_place(place)
    return powers_from(curve, place)


def powers_from(curve, place):
    """What `piece` tells, of arguments that are checked."""
    knots, degree = curve.frame.knots, curve.frame.degree
    if not knots[0] <= place < knots[-1]:
        return (ZERO,) * (degree + 1)
    at_most = len([knot for knot in knots if knot <= place])
    # Hills of amount 0 beyond the ends, at knots like the end ones, give each stretch a whole set of hills.
    nothing = (ZERO,) * degree
    amounts = (nothing + curve.amounts + nothing)[at_most - 1:at_most + degree]
    near = (knots[:1] * degree + knots + knots[-1:] * degree)[at_most:at_most + 2 * degree]
    rows = [[amount] for amount in amounts]
    for step in range(degree):
        rows = [_blended(rows[at], rows[at + 1], near[at + step], near[at + degree]) for at in range(len(rows) - 1)]
    return tuple(rows[0])


def _blended(one, other, low, high):
    """The powers of (high - x) times the one and (x - low) times the other, together divided by high - low."""
    level = [plus(times((high, 1), left), times((-low, 1), right)) for left, right in zip(one, other)]
    rise = [plus(times((-1, 1), left), right) for left, right in zip(one, other)]
    sums = [plus(left, right) for left, right in zip([*level, ZERO], [ZERO, *rise])]
    return [times((1, high - low), total) for total in sums]


def _worth(powers, place):
    """The sum of the powers of the place, times these fractions."""
    total = ZERO
    for power in reversed(powers):
        total = plus(times(total, (place, 1)), power)
    return total


def slope(curve, place):
    """The slope at the place of the piece that begins or goes on there."""
    powers = piece(curve, place)
    return _worth([times((index, 1), power) for index, power in enumerate(powers)][1:], place)


def area(curve, first, last):
    """The area under the curve between two places, below 0 counted negative."""
    check_curve(curve)
    check_place(first)
    check_place(last)
    if last < first:
        raise InvalidNumber(last)
    total = ZERO
    for low, high in stretches(curve.frame):
        if max(low, first) < min(high, last):
            total = plus(total, _piece_area(powers_from(curve, low), max(low, first), min(high, last)))
    return total


def _piece_area(powers, first, last):
    """The area under the curve of these powers."""
    grown = [ZERO, *[times((1, index), power) for index, power in enumerate(powers, start=1)]]
    return plus(_worth(grown, last), times((-1, 1), _worth(grown, first)))
