"""Matchings of hills and places, and the rank, which tells what can be chosen freely."""

from bentthrough.errors import InvalidPlaces
from bentthrough.frames import check_frame
from bentthrough.hills import stands_there
from bentthrough.kinds import is_integer_within
from bentthrough.limits import MOST_KNOT, MOST_PLACES


def check_places(places):
    """Raises InvalidPlaces unless these are places."""
    if not isinstance(places, tuple) or not places:
        raise InvalidPlaces(None)
    for index, place in enumerate(places):
        if index >= MOST_PLACES or not is_integer_within(place, 0, MOST_KNOT):
            raise InvalidPlaces(index)
        if index > 0 and place <= places[index - 1]:
            raise InvalidPlaces(index)


def are_places(things):
    """Whether these are places."""
    try:
        check_places(things)
    except InvalidPlaces:
        return False
    return True


def _check_both(frame, places):
    """The checks of a frame and places."""
    check_frame(frame)
    check_places(places)


def rank(frame, places):
    """The length of the longest matchings."""
    _check_both(frame, places)
    return rank_of(frame, places)


def rank_of(frame, places):
    """The rank of places that are ascending and may be more than twelve."""
    return _longest(frame, places)[0][0]


def _longest(frame, places):
    """For each hill and each index, and behind the last ones, the length of the longest matchings from there on."""
    found = [[0] * (len(places) + 1)]
    for hill in reversed(range(frame.hills)):
        above = found[-1]
        row = [0]
        for index in reversed(range(len(places))):
            if stands_there(frame, hill, places[index]):
                row.append(above[index + 1] + 1)
            else:
                row.append(max(above[index], row[-1]))
        found.append(row[::-1])
    return found[::-1]


def matching(frame, places):
    """The least one, as tuples, of the longest matchings."""
    _check_both(frame, places)
    longest = _longest(frame, places)
    pairs, hill, index = [], 0, 0
    while longest[hill][index] > 0:
        pair = _least_pair(frame, places, longest, hill, index)
        pairs.append(pair)
        hill, index = pair[0] + 1, pair[1] + 1
    return tuple(pairs)


def _least_pair(frame, places, longest, hill, index):
    """The least pair from this hill and index on with which one of the longest matchings from there on begins."""
    pairs = [(other, at) for other in range(hill, frame.hills) for at in range(index, len(places))
             if longest[other + 1][at + 1] + 1 == longest[hill][index] and stands_there(frame, other, places[at])]
    return pairs[0]


def all_met(frame, places):
    """Whether for all heights some curve goes through them at the places."""
    return rank(frame, places) == len(places)


def one_at_most(frame, places):
    """Whether for all heights at most one curve goes through them at the places."""
    return rank(frame, places) == frame.hills


def just_one(frame, places):
    """Whether for all heights just one curve goes through them at the places."""
    return rank(frame, places) == len(places) == frame.hills
