"""Knots that are put in or taken out without changing a curve, and further knots that mend a frame."""

from itertools import combinations

from bentthrough.curves import Curve, check_curve
from bentthrough.errors import InvalidKnot, InvalidKnots, InvalidOffers, TooMany
from bentthrough.frames import Frame, check_frame
from bentthrough.kinds import ONE, ZERO, is_integer, is_integer_within, plus, reduced, sum_of_products, times
from bentthrough.limits import MOST_HILLS, MOST_KNOT, MOST_OFFERS
from bentthrough.matches import check_places, rank_of
from bentthrough.meeting import solution


def put_in(curve, knot):
    """The same curve, in the frame with this knot more."""
    check_curve(curve)
    frame, knots = curve.frame, curve.frame.knots
    if not is_integer_within(knot, knots[0] + 1, knots[-1] - 1) or knots.count(knot) > frame.degree:
        raise InvalidKnot(knot)
    if frame.hills == MOST_HILLS:
        raise TooMany(MOST_HILLS)
    amounts = [sum_of_products(row, curve.amounts) for row in _amounts_with(frame, knot)]
    return Curve(Frame(frame.degree, _knots_with(frame, [knot])), tuple(amounts))


def taken_out(curve, knot):
    """The same curve but at the last knots, in the frame with this knot once less; None if it is no curve of that."""
    check_curve(curve)
    frame, knots = curve.frame, curve.frame.knots
    if not is_integer(knot) or knot not in knots or frame.hills == 1:
        raise InvalidKnot(knot)
    at = knots.index(knot)
    smaller = Frame(frame.degree, knots[:at] + knots[at + 1:])
    amounts = solution(_amounts_with(smaller, knot), curve.amounts)
    return None if amounts is None else Curve(smaller, tuple(amounts))


def _knots_with(frame, more):
    """The knots of the frame and these, in order."""
    return tuple(sorted([*frame.knots, *more]))


def _amounts_with(frame, knot):
    """For each hill of the frame with this knot more, how much of each of this frame's amounts its amount is."""
    rows = []
    for hill in range(frame.hills + 1):
        share = _own_share(frame, knot, hill)
        # A hill of no amount ahead of the first one, and one behind the last one, make all rows alike.
        row = [ZERO] * (frame.hills + 2)
        row[hill], row[hill + 1] = plus(ONE, times((-1, 1), share)), share
        rows.append(row[1:-1])
    return rows


def _own_share(frame, knot, hill):
    """How much of the amount of the hill with this number goes to the same number with the knot more.

    The rest comes from the hill ahead of it.
    """
    low, high = frame.knots[hill], frame.knots[hill + frame.degree]
    if high <= knot:
        return ONE
    return reduced(knot - low, high - low) if low < knot else ZERO


def mending(frame, places, offers):
    """All least sets of indexes of offers that, as further knots, let curves go through all heights at the places."""
    check_frame(frame)
    check_places(places)
    _check_offers(offers)
    found = []
    for many in range(len(offers) + 1):
        for chosen in combinations(range(len(offers)), many):
            if not _holds_one(chosen, found) and _mends(frame, places, [offers[index] for index in chosen]):
                found.append(chosen)
    return tuple(found)


def _check_offers(offers):
    """Raises InvalidOffers unless these are offers of knots."""
    if not isinstance(offers, tuple):
        raise InvalidOffers(None)
    for index, offer in enumerate(offers):
        if index >= MOST_OFFERS or not is_integer_within(offer, 0, MOST_KNOT):
            raise InvalidOffers(index)


def _holds_one(chosen, smaller):
    """Whether one of the smaller sets is a part of the chosen one."""
    return any([all([index in chosen for index in part]) for part in smaller])


def _mends(frame, places, more):
    """Whether there is a frame with these knots more, and for all heights at the places one of its curves."""
    try:
        wider = Frame(frame.degree, _knots_with(frame, more))
    except InvalidKnots:
        return False
    return rank_of(wider, places) == len(places)
