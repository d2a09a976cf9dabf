"""How often curves go from above to below, and whether they are ever above a number."""

from bentthrough.curves import check_curve, powers_from
from bentthrough.errors import InvalidHeights, InvalidNumber
from bentthrough.frames import stretches
from bentthrough.kinds import is_integer_within, plus, reduced
from bentthrough.limits import MOST_HEIGHT
from bentthrough.meeting import whole_numbers


def changes(row):
    """How often the sign changes in a row of integers, 0 left out."""
    if not isinstance(row, tuple):
        raise InvalidHeights(None)
    for index, number in enumerate(row):
        if not is_integer_within(number, -MOST_HEIGHT, MOST_HEIGHT):
            raise InvalidHeights(index)
    return _sign_changes(row)


def _sign_changes(row):
    """What `changes` tells, of integers that are checked."""
    above = [number > 0 for number in row if number != 0]
    return len([one for one, other in zip(above, above[1:]) if one != other])


def turns(curve):
    """The greatest number of ascending fractions at which the curve is by turns above and below 0."""
    return len(turning_row(curve))


def turning_row(curve):
    """As many ascending fractions as can be at which the curve is by turns above and below 0."""
    check_curve(curve)
    found, before = [], 0
    for x, sign in _signs(curve, 0):
        if sign != before:
            found.append(x)
            before = sign
    return tuple(found)


def never_above(curve, number):
    """Whether the curve, which is 0 outside of its knots, has no value above the number."""
    check_curve(curve)
    if not is_integer_within(number, -MOST_HEIGHT, MOST_HEIGHT):
        raise InvalidNumber(number)
    return number >= 0 and all([sign < 0 for _, sign in _signs(curve, number)])


def _signs(curve, number):
    """Pairs (x, sign) of ascending fractions and the signs, 1 or -1, of the curve less the number there.

    Each sign that the curve less the number has anywhere between two neighbouring knots is among them, in order.
    """
    found = []
    for low, high in stretches(curve.frame):
        powers = _whole_powers(powers_from(curve, low), number)
        if powers:
            for x in _points_between_zeros(powers, (low, 1), (high, 1)):
                found.append((x, _sign_at(powers, x)))
    return found


# From here on a list of integers, the last one other than 0, is a polynomial, with the lowest power first; it is
# multiplied by numbers above 0 wherever its signs alone count.


def _whole_powers(powers, number):
    """The polynomial with these fractions, less the number."""
    return _trimmed(whole_numbers([plus(powers[0], (-number, 1)), *powers[1:]]))


def _trimmed(powers):
    """The powers without zeros at the end."""
    many = len(powers)
    while many > 0 and powers[many - 1] == 0:
        many -= 1
    return powers[:many]


def _sign_at(powers, x):
    """The sign of the polynomial at a fraction: 1, 0 or -1."""
    top, bottom = x
    total, scale = 0, 1
    for power in reversed(powers):
        total = total * top + power * scale
        scale = scale * bottom
    return (total > 0) - (total < 0)


def _sign_beside(powers, x, side):
    """The sign that the polynomial has just behind x (if the side is 1) or just ahead of it (-1)."""
    turn = 1
    while _sign_at(powers, x) == 0:
        powers, turn = _slopes(powers), turn * side
    return turn * _sign_at(powers, x)


def _slopes(powers):
    """The polynomial's slope, a polynomial."""
    return [index * power for index, power in enumerate(powers)][1:]


def _remainder(powers, divisor):
    """What is left of the polynomial if multiples of the divisor are taken off."""
    lead, sign = abs(divisor[-1]), 1 if divisor[-1] > 0 else -1
    rest = powers
    while len(rest) >= len(divisor):
        shift = [0] * (len(rest) - len(divisor)) + divisor
        rest = _trimmed([lead * one - sign * rest[-1] * other for one, other in zip(rest, shift)])
    return rest


def _chain(powers):
    """Sturm's chain: its signs at two x change as many times less often at the greater one as zeros lie between."""
    found, following = [powers], _slopes(powers)
    while following:
        found.append(following)
        following = [-power for power in _remainder(found[-2], found[-1])]
    return found


def _zeros_between(chain, low, high):
    """How many zeros the first polynomial of the chain has between the two fractions, these left out."""
    behind_low = _sign_changes([_sign_beside(powers, low, 1) for powers in chain])
    ahead_of_high = _sign_changes([_sign_beside(powers, high, -1) for powers in chain])
    return behind_low - ahead_of_high


def _points_between_zeros(powers, low, high):
    """Ascending fractions between the two, at least one wherever zeros or these two are neighbours, none a zero."""
    chain, found, waiting = _chain(powers), [], [(low, high)]
    while waiting:
        left, right = waiting.pop()
        if left == right:
            found.append(left)
            continue
        many = _zeros_between(chain, left, right)
        # A single zero needs no more points if there is one on either side of it already.
        if many == 0:
            found.append(_part_way(left, right, 2))
        elif many > 1 or left == low or right == high:
            point = _point_apart(powers, left, right)
            waiting.extend([(point, right), (point, point), (left, point)])
    return found


def _point_apart(powers, left, right):
    """A fraction between the two at which the polynomial is not 0."""
    parts = 2
    while _sign_at(powers, _part_way(left, right, parts)) == 0:
        parts += 1
    return _part_way(left, right, parts)


def _part_way(left, right, parts):
    """The fraction that lies one of so many equal parts behind the left one, on the way to the right one."""
    top = left[0] * right[1] * (parts - 1) + right[0] * left[1]
    return reduced(top, left[1] * right[1] * parts)
