"""What [13] says of claims for the checker and their papers, worked out anew, and things changed in one part."""

from fractions import Fraction
from itertools import pairwise
from math import gcd

from anything import Blank, Stranger
from bentthrough.errors import InvalidText
from bentthrough.frames import Frame
from reckoned import curve_value, hill_value


def nested(kind):
    """Tuples or lists, as deep within one another as such a thing may be where it is a part of a paper's part."""
    thing = kind([1])
    for _ in range(16):
        thing = kind([thing])
    return thing


# Things of all kinds that are put in the place of a part.
THINGS = (
    None, True, False, 0, 1, -1, 2, 3, 13, 10 ** 20 + 1, -10 ** 59, "", "1", "through", b"", (), (0,), (1, 1), (2, 2),
    (0, 0), (1, 0), (-1, 1), (1, 2), (3, -2), ((0, 0),), [], [1], [0, 0], {}, {1: 2}, {1}, range(2), object(), Blank(),
    Stranger(), nested(tuple), nested(list),
)


class Parts:
    """Frames and amounts as `curve_value` takes them, without what a Curve asks."""

    def __init__(self, frame, amounts):
        self.frame = frame
        self.amounts = amounts


def is_integer(thing):
    return isinstance(thing, int) and not isinstance(thing, bool)


def is_row(thing, many):
    """Whether it is a tuple of so many integers."""
    return isinstance(thing, tuple) and len(thing) == many and all(map(is_integer, thing))


def is_fraction(thing):
    return is_row(thing, 2) and thing[1] > 0 and gcd(*thing) == 1


def are_places(thing):
    if not isinstance(thing, tuple) or not 1 <= len(thing) <= 12 or not is_row(thing, len(thing)):
        return False
    return 0 <= thing[0] and thing[-1] <= 10 ** 6 and all(one < other for one, other in pairwise(thing))


def are_fractions(thing, many):
    return isinstance(thing, tuple) and len(thing) == many and all(map(is_fraction, thing))


def frame_of(thing):
    """The frame with this text, None if it is none."""
    try:
        return Frame.read(thing)
    except InvalidText:
        return None


def is_claim(claim):
    """Whether it is a claim for the checker."""
    if not isinstance(claim, tuple) or len(claim) != 4 or not isinstance(claim[0], str) or frame_of(claim[1]) is None:
        return False
    word, text, subject, told = claim
    if word in ("through", "never"):
        return are_places(subject) and is_row(told, len(subject)) and max(map(abs, told)) <= 10 ** 20
    if word in ("rank", "below"):
        return are_places(subject) and is_integer(told) and told >= 0
    return word == "turns" and are_fractions(subject, frame_of(text).hills) and is_integer(told) and told >= 0


def products_with(frame, places, weights):
    """For each hill the sum of the weights times its values at the places."""
    return [sum(weight * hill_value(frame, hill, place) for weight, place in zip(weights, places))
            for hill in range(frame.hills)]


def bars_nothing(frame, places, weights):
    """Whether the weights have the sum 0 with the values of each hill."""
    return is_row(weights, len(places)) and any(weights) and not any(products_with(frame, places, weights))


def is_matching(frame, places, paper, many):
    if not isinstance(paper, tuple) or len(paper) != many or not all(is_row(pair, 2) for pair in paper):
        return False
    if not all(0 <= hill < frame.hills and 0 <= index < len(places) for hill, index in paper):
        return False
    if not all(one[0] < other[0] and one[1] < other[1] for one, other in pairwise(paper)):
        return False
    return all(hill_value(frame, hill, places[index]) > 0 for hill, index in paper)


def are_weights_apart(frame, places, paper, many):
    if not isinstance(paper, tuple) or len(paper) != many:
        return False
    if not all(bars_nothing(frame, places, weights) for weights in paper):
        return False
    return all(any(weights[index] and not any(later[index] for later in paper[at + 1:]) for index in range(len(places)))
               for at, weights in enumerate(paper))


def is_turning_row(frame, amounts, paper, many):
    if not are_fractions(paper, many):
        return False
    xs = [Fraction(*x) for x in paper]
    values = [curve_value(Parts(frame, amounts), x) for x in xs]
    return all(values) and all(one < other for one, other in pairwise(xs)) and all(
        (one > 0) != (other > 0) for one, other in pairwise(values))


def should_accept(claim, paper):
    """Whether it is a claim for the checker, and a paper for it."""
    if not is_claim(claim):
        return False
    word, text, subject, told = claim
    frame = frame_of(text)
    if word == "through":
        return are_fractions(paper, frame.hills) and all(
            curve_value(Parts(frame, paper), place) == height for place, height in zip(subject, told))
    if word == "never":
        return bars_nothing(frame, subject, paper) and sum(map(int.__mul__, paper, told)) != 0
    if word == "rank":
        return is_matching(frame, subject, paper, told)
    if word == "below":
        return are_weights_apart(frame, subject, paper, max(len(subject) - told, 0))
    return is_turning_row(frame, subject, paper, told)


def changed(thing, things=THINGS):
    """What becomes of the thing, tuples within tuples, if one part of it is changed, left out or put in."""
    yield from things
    if is_integer(thing):
        yield from (thing + 1, thing - 1, -thing, 2 * thing, str(thing), thing == 1, 10 ** 59, (thing,), [thing])
    if isinstance(thing, str):
        yield from (thing + " ", " " + thing, thing[:-1], thing + "7", thing.upper(), thing.replace(" ", "  "),
                    thing.replace("1", "2"), thing.replace("0", "1", 1), thing.encode(), (thing,), [thing])
    if isinstance(thing, tuple):
        yield from (list(thing), thing[::-1], (*thing, *thing), (thing,), thing[1:], thing[:-1], (*thing, 0),
                    (0, *thing))
        for at, part in enumerate(thing):
            yield (*thing[:at], *thing[at + 1:])
            yield (*thing[:at], part, *thing[at:])
            for other in changed(part, things):
                yield (*thing[:at], other, *thing[at + 1:])
