"""Frames: a degree and the knots over which the hills of curves stand."""

from bentthrough.errors import InvalidDegree, InvalidKnots, InvalidText, NotAFrame
from bentthrough.kinds import is_integer_within, plain_number
from bentthrough.limits import MOST_DEGREE, MOST_HILLS, MOST_KNOT


class Frame:
    """A degree and knots, none less than the one before it."""

    def __init__(self, degree, knots):
        if not is_integer_within(degree, 0, MOST_DEGREE):
            raise InvalidDegree(degree)
        _check_knots(degree, knots)
        self._degree = degree
        self._knots = knots

    @classmethod
    def read(cls, text):
        """The frame with this text."""
        numbers = _numbers_told(text)
        if not numbers:
            raise InvalidText(text)
        try:
            return cls(numbers[0], tuple(numbers[1:]))
        except (InvalidDegree, InvalidKnots):
            raise InvalidText(text) from None

    @property
    def degree(self):
        """The degree, as it was passed."""
        return self._degree

    @property
    def knots(self):
        """The knots, as they were passed."""
        return self._knots

    @property
    def hills(self):
        """The number of hills."""
        return len(self._knots) - self._degree - 1

    @property
    def text(self):
        """The text, from which `read` makes an equal frame."""
        numbers = " ".join([str(knot) for knot in self._knots])
        return f"degree {self._degree} knots {numbers}"

    def __eq__(self, other):
        return isinstance(other, Frame) and self._degree == other._degree and self._knots == other._knots

    def __str__(self):
        return str(self.text)

    def __repr__(self):
        return f"Frame of {self.hills} hills"


def _check_knots(degree, knots):
    """Raises InvalidKnots unless these are knots for the degree."""
    if not isinstance(knots, tuple) or len(knots) < degree + 2:
        raise InvalidKnots(None)
    for index in range(len(knots)):
        if not _knot_fits(degree, knots, index):
            raise InvalidKnots(index)


def _knot_fits(degree, knots, index):
    """Whether the knot with this index can stand behind those ahead of it, all of which do fit."""
    knot = knots[index]
    if index > MOST_HILLS + degree or not is_integer_within(knot, 0, MOST_KNOT):
        return False
    if index > 0 and knot < knots[index - 1]:
        return False
    # As the knots ahead never fall, degree + 2 alike are found by the first and the last of them.
    return index <= degree or knots[index - degree - 1] < knot


def _numbers_told(text):
    """The degree and then the knots in a string of the form of a text, in a list; None for any other thing."""
    if not isinstance(text, str):
        return None
    words = text.split(" ")
    if len(words) < 3 or words[0] != "degree" or words[2] != "knots":
        return None
    numbers = [plain_number(word, MOST_KNOT) for word in [words[1], *words[3:]]]
    return None if None in numbers else numbers


def check_frame(frame):
    """Raises NotAFrame unless this is a frame."""
    if not isinstance(frame, Frame):
        raise NotAFrame(frame)


def stretches(frame):
    """The pairs (low, high) of neighbouring unlike knots."""
    check_frame(frame)
    knots = frame.knots
    return tuple([(low, high) for low, high in zip(knots, knots[1:]) if low < high])


def within(frame, other):
    """Whether the degrees are equal and each knot of the frame is at least as often in the other one."""
    check_frame(frame)
    check_frame(other)
    if frame.degree != other.degree:
        return False
    return all([frame.knots.count(knot) <= other.knots.count(knot) for knot in frame.knots])
