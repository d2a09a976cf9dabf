"""Frames and curves for tests: of each degree, with knots apart and alike, and all small ones."""

from itertools import combinations_with_replacement

from bentthrough.curves import Curve
from bentthrough.errors import InvalidKnots
from bentthrough.frames import Frame

RAMP = Frame(1, (0, 2, 4, 6))
BOW = Frame(2, (0, 0, 0, 4, 4, 4))

FRAMES = (
    Frame(0, (0, 1)), Frame(0, (3, 9)), Frame(0, (0, 2, 4, 5)), Frame(0, tuple(range(1, 12))),
    RAMP, Frame(1, (0, 0, 1)), Frame(1, (3, 5, 5)), Frame(1, (0, 1, 1, 2)), Frame(1, (1, 4, 4, 7, 7)),
    Frame(1, (0, 0, 2, 2, 5, 5)), Frame(1, tuple(range(12))), Frame(1, (0, 0, 1, 1, 2, 2, 6, 6, 9, 9)),
    BOW, Frame(2, (0, 1, 2, 3)), Frame(2, (0, 0, 0, 1)), Frame(2, (5, 6, 6, 6)), Frame(2, (0, 1, 4, 9, 16)),
    Frame(2, (1, 1, 3, 3, 3, 6, 8, 8)), Frame(2, (0, 0, 0, 2, 2, 2, 5, 5, 5)), Frame(2, (2, 3, 3, 5, 5, 8, 9)),
    Frame(2, tuple(range(0, 26, 2))), Frame(2, (0, 0, 0, 1, 1, 1, 2, 2, 2, 3, 3, 3, 9)),
    Frame(3, (0, 2, 3, 7, 8)), Frame(3, (0, 0, 0, 0, 5)), Frame(3, (1, 4, 4, 4, 4)), Frame(3, (0, 0, 0, 0, 3, 3, 3, 3)),
    Frame(3, (0, 0, 0, 0, 3, 5, 8, 8, 8, 8)), Frame(3, (0, 1, 1, 1, 1, 4, 6, 6, 7)), Frame(3, tuple(range(3, 17))),
    Frame(4, (0, 1, 2, 3, 4, 5)), Frame(4, (0, 0, 0, 0, 0, 7)), Frame(4, (2, 6, 6, 6, 6, 6)),
    Frame(4, (0, 0, 0, 0, 0, 8, 8, 8, 8, 8)), Frame(4, (0, 0, 1, 1, 1, 1, 1, 6, 9, 9)),
    Frame(4, (1, 1, 1, 1, 1, 2, 2, 2, 2, 2, 6, 6, 6, 6, 6)),
    Frame(4, (0, 1, 3, 4, 6, 7, 9, 10, 12, 13, 15, 16, 18, 19, 21)),
)

# Frames whose knots lie far apart, up to the greatest knot.
WIDE = (
    Frame(0, (0, 10 ** 6)), Frame(0, (999999, 10 ** 6)), Frame(1, (0, 5, 999998, 10 ** 6)),
    Frame(1, (10 ** 6 - 3, 10 ** 6, 10 ** 6)), Frame(2, (0, 0, 0, 333333, 10 ** 6, 10 ** 6, 10 ** 6)),
    Frame(3, (0, 1, 500000, 999990, 999999, 10 ** 6)), Frame(4, (0,) * 5 + (10 ** 6,) * 5),
    Frame(4, (7, 99, 1234, 56789, 400000, 400001, 999999, 10 ** 6)),
)


AMOUNTS = ((3, 1), (-1, 2), (0, 1), (5, 3), (-7, 1), (1, 10 ** 20), (10 ** 59, 7), (2, 5), (-1, 1), (4, 9))


def curve_of(frame, start=0):
    """A curve of the frame with amounts of many kinds."""
    return Curve(frame, tuple(AMOUNTS[(start + hill) % len(AMOUNTS)] for hill in range(frame.hills)))


def small_frames(degree, many, most):
    """All frames of this degree with so many hills and knots from 0 to `most`."""
    found = []
    for knots in combinations_with_replacement(range(most + 1), degree + 1 + many):
        try:
            found.append(Frame(degree, knots))
        except InvalidKnots:
            pass
    return found


def places_near(frame):
    """Places at, between, beside, ahead of and behind the knots."""
    near = {place for knot in frame.knots for place in (knot - 1, knot, knot + 1)}
    near |= {(low + high) // 2 for low, high in zip(frame.knots, frame.knots[1:])} | {0, 10 ** 6}
    return [place for place in sorted(near) if 0 <= place <= 10 ** 6]
