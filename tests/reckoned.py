"""What the document's words give, worked out anew with Python's fractions, as plainly as can be."""

from fractions import Fraction
from functools import lru_cache
from itertools import combinations


def flat(low, high, x, last):
    """The value of a hill of degree 0; at the last knot of all the one to which it comes from the left."""
    return 1 if (low < x <= high if x == last else low <= x < high) else 0


@lru_cache(maxsize=200000)
def bent(knots, x, last):
    """The value at x of the hill that belongs to these knots, by the rule of [7]."""
    if len(knots) == 2:
        return Fraction(flat(knots[0], knots[1], x, last))
    total = Fraction(0)
    if knots[-2] != knots[0]:
        total += Fraction(x - knots[0]) / (knots[-2] - knots[0]) * bent(knots[:-1], x, last)
    if knots[-1] != knots[1]:
        total += Fraction(knots[-1] - x) / (knots[-1] - knots[1]) * bent(knots[1:], x, last)
    return total


def hill_value(frame, hill, x):
    """The value of a hill at any x."""
    return bent(frame.knots[hill:hill + frame.degree + 2], x, frame.knots[-1])


def curve_value(curve, x):
    """The value of a curve at any x."""
    return sum((Fraction(*amount) * hill_value(curve.frame, hill, x) for hill, amount in enumerate(curve.amounts)),
               Fraction(0))


def table(frame, places):
    """The values of all hills at the places, a row for each place."""
    return [[hill_value(frame, hill, place) for hill in range(frame.hills)] for place in places]


def rows_rank(rows):
    """How many rows are left if rows are taken off one another."""
    rows, done = [list(row) for row in rows], 0
    for column in range(len(rows[0]) if rows else 0):
        head = next((row for row in rows[done:] if row[column] != 0), None)
        if head is not None:
            rows.remove(head)
            rows = [[one - row[column] / head[column] * other for one, other in zip(row, head)]
                    if at >= done else row for at, row in enumerate(rows)]
            rows.insert(done, head)
            done += 1
    return done


def table_rank(frame, places):
    """The rank of the table of values."""
    return rows_rank(table(frame, places))


def is_met(frame, places, heights):
    """Whether the heights add nothing to the rank of the table of values."""
    rows = table(frame, places)
    return rows_rank([[*row, Fraction(height)] for row, height in zip(rows, heights)]) == rows_rank(rows)


def matchings(frame, places, many):
    """All matchings of so many pairs, tried one by one."""
    for hills in combinations(range(frame.hills), many):
        for indexes in combinations(range(len(places)), many):
            if all(hill_value(frame, hill, places[index]) > 0 for hill, index in zip(hills, indexes)):
                yield tuple(zip(hills, indexes))


def least_longest_matching(frame, places):
    """The least of all the longest matchings."""
    for many in range(min(frame.hills, len(places)), -1, -1):
        found = list(matchings(frame, places, many))
        if found:
            return min(found)


def pair(number):
    """A number as a fraction of the program."""
    number = Fraction(number)
    return (number.numerator, number.denominator)
