"""Certificates: claims with the papers for which the checker accepts them."""

from bentthrough.errors import InvalidNumber
from bentthrough.hills import values_at
from bentthrough.kinds import is_integer_within
from bentthrough.limits import MOST_PLACES
from bentthrough.matches import matching, rank
from bentthrough.meeting import bar, curve_through, vanishing_rows, whole_numbers
from bentthrough.signs import turning_row


def certify_through(frame, places, heights):
    """The claim that some curve goes through the heights, or that none does, with the paper for it."""
    curve = curve_through(frame, places, heights)
    if curve is None:
        return ("never", frame.text, places, heights), bar(frame, places, heights)
    return ("through", frame.text, places, heights), curve.amounts


def certify_rank(frame, places, number):
    """The claim that the rank is at least this number with the paper for it, None if it is not."""
    pairs = matching(frame, places)
    _check_number(number)
    return None if len(pairs) < number else (("rank", frame.text, places, number), pairs[:number])


def certify_below(frame, places, number):
    """The claim that the rank is at most this number with the paper for it, None if it is not."""
    free = rank(frame, places)
    _check_number(number)
    if free > number:
        return None
    rows = [values_at(frame, place) for place in places]
    # There may be more weights than are asked for; any of them do, as each has a number where all others have 0.
    weights = vanishing_rows([list(column) for column in zip(*rows)], len(places))[:max(len(places) - number, 0)]
    return ("below", frame.text, places, number), tuple([tuple(whole_numbers(row)) for row in weights])


def _check_number(number):
    """Raises InvalidNumber unless this is a number that a rank may have."""
    if not is_integer_within(number, 0, MOST_PLACES):
        raise InvalidNumber(number)


def certify_turns(curve):
    """The claim of how often the curve goes at most from above to below 0 or back, with the paper for it."""
    row = turning_row(curve)
    return ("turns", curve.frame.text, curve.amounts, len(row)), row
