"""The checker, which believes claims only for papers that show them."""

from bentthrough.curves import check_amounts
from bentthrough.errors import NotRight
from bentthrough.frames import Frame
from bentthrough.hills import stands_there, values_at, values_at_fraction
from bentthrough.kinds import ZERO, is_fraction, is_integer, is_integer_within, sum_of_products
from bentthrough.matches import check_places
from bentthrough.meeting import check_heights


def _shows_through(frame, places, heights, paper):
    """Whether the paper is amounts of a curve through the heights."""
    check_places(places)
    check_heights(places, heights)
    check_amounts(frame, paper)
    values = [sum_of_products(paper, values_at(frame, place)) for place in places]
    return values == [(height, 1) for height in heights]


def _shows_never(frame, places, heights, paper):
    """Whether the paper is weights that bar the heights."""
    check_places(places)
    check_heights(places, heights)
    if not _is_whole_row(paper, len(places)) or not _outweighs_hills(frame, places, paper):
        return False
    return sum([weight * height for weight, height in zip(paper, heights)]) != 0


def _shows_rank(frame, places, number, paper):
    """Whether the paper is a matching of so many pairs."""
    check_places(places)
    if not _is_count(number) or not isinstance(paper, tuple) or len(paper) != number:
        return False
    if not all([_is_standing_pair(frame, places, pair) for pair in paper]):
        return False
    return all([one[0] < other[0] and one[1] < other[1] for one, other in zip(paper, paper[1:])])


def _shows_below(frame, places, number, paper):
    """Whether the paper is as many weights that no curve outwits, free of one another, as the places are more."""
    check_places(places)
    if not _is_count(number) or not isinstance(paper, tuple) or len(paper) != max(len(places) - number, 0):
        return False
    if not all([_is_whole_row(row, len(places)) and _outweighs_hills(frame, places, row) for row in paper]):
        return False
    return all([_has_own_index(row, paper[at + 1:]) for at, row in enumerate(paper)])


def _shows_turns(frame, amounts, number, paper):
    """Whether the paper is so many fractions at which the curve is by turns above and below 0."""
    check_amounts(frame, amounts)
    if not _is_count(number) or not isinstance(paper, tuple) or len(paper) != number:
        return False
    if not all([is_fraction(x) for x in paper]):
        return False
    if not all([one[0] * other[1] < other[0] * one[1] for one, other in zip(paper, paper[1:])]):
        return False
    tops = [sum_of_products(amounts, values_at_fraction(frame, x))[0] for x in paper]
    return 0 not in tops and all([(one > 0) != (other > 0) for one, other in zip(tops, tops[1:])])


def _is_count(number):
    """Whether the number is an integer from 0 on."""
    return is_integer(number) and number >= 0


def _is_whole_row(row, many):
    """Whether the row is a tuple of so many integers."""
    return isinstance(row, tuple) and len(row) == many and all([is_integer(weight) for weight in row])


def _outweighs_hills(frame, places, weights):
    """Whether for each hill the sum of the weights times its values at the places is 0."""
    factors = [(weight, 1) for weight in weights]
    rows = [values_at(frame, place) for place in places]
    return all([sum_of_products(factors, column) == ZERO for column in zip(*rows)])


def _is_standing_pair(frame, places, pair):
    """Whether the pair is the number of a hill and the index of a place at which it stands."""
    if not isinstance(pair, tuple) or len(pair) != 2:
        return False
    hill, index = pair
    if not is_integer_within(hill, 0, frame.hills - 1) or not is_integer_within(index, 0, len(places) - 1):
        return False
    return stands_there(frame, hill, places[index])


def _has_own_index(row, later):
    """Whether the row has at some index an integer other than 0 where all later ones have 0."""
    return any([row[at] != 0 and all([other[at] == 0 for other in later]) for at in range(len(row))])


# What shows the claims with each word.
CHECKS = {
    "through": _shows_through,
    "never": _shows_never,
    "rank": _shows_rank,
    "below": _shows_below,
    "turns": _shows_turns,
}


def accepts(claim, paper):
    """Whether the claim is one for the checker and the paper shows it, whatever both are."""
    if not isinstance(claim, tuple) or len(claim) != 4:
        return False
    word, text, subject, told = claim
    if not isinstance(word, str) or word not in CHECKS:
        return False
    shows = CHECKS[word]
    try:
        return shows(Frame.read(text), subject, told, paper)
    except NotRight:
        return False
