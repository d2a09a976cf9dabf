"""Boards: points with heights over a frame."""

from bentthrough.curves import Curve
from bentthrough.errors import InvalidNumber, TooMany
from bentthrough.frames import check_frame
from bentthrough.hills import check_place
from bentthrough.history import History, Trial
from bentthrough.kinds import ZERO, is_integer, is_integer_within
from bentthrough.limits import MOST_HEIGHT, MOST_PLACES
from bentthrough.matches import rank_of
from bentthrough.meeting import curve_with


class Board:
    """A frame and points, all changes of which can be taken back."""

    def __init__(self, frame):
        check_frame(frame)
        self._history = History((frame, ()))

    @property
    def frame(self):
        """The frame."""
        return self._history.now.held[0]

    @property
    def points(self):
        """The ascending pairs (place, height)."""
        return self._history.now.held[1]

    @property
    def changes(self):
        """How many changes can be taken back."""
        return self._history.now.many

    @property
    def state(self):
        """Whether none, one or many curves go through the points, as a word."""
        if self.curve is None:
            return "none"
        return "one" if rank_of(self.frame, _places_of(self.points)) == self.frame.hills else "many"

    @property
    def curve(self):
        """A curve that goes through the points, None if there is none."""
        if not self.points:
            return Curve(self.frame, (ZERO,) * self.frame.hills)
        return curve_with(self.frame, _places_of(self.points), [height for _, height in self.points])

    def put(self, place, height):
        """Puts a point at this place, also in the place of one that is there."""
        check_place(place)
        if not is_integer_within(height, -MOST_HEIGHT, MOST_HEIGHT):
            raise InvalidNumber(height)
        points = [*_points_elsewhere(self.points, place), (place, height)]
        if len(points) > MOST_PLACES:
            raise TooMany(MOST_PLACES)
        self._history.change((self.frame, tuple(sorted(points))))

    def drop(self, place):
        """Takes the point at this place away."""
        if not is_integer(place) or place not in _places_of(self.points):
            raise InvalidNumber(place)
        self._history.change((self.frame, tuple(_points_elsewhere(self.points, place))))

    def bend(self, frame):
        """Puts another frame below the points."""
        check_frame(frame)
        self._history.change((frame, self.points))

    def undo(self):
        """Takes back the last change that has not been taken back."""
        self._history.undo()

    def trial(self):
        """For a `with` statement, at the end of which the board is as it was when its rows began."""
        return Trial(self, self._history)

    def tried(self, action):
        """What the action returns, which is called with the board; then the board is as it was."""
        with self.trial() as board:
            return action(board)

    def __eq__(self, other):
        # Each board has a history of its own; without this method Python would ask the other side, of any kind.
        return isinstance(other, Board) and self._history == other._history


def _places_of(points):
    """The places of the points."""
    return [place for place, _ in points]


def _points_elsewhere(points, place):
    """The points at other places than this one."""
    return [point for point in points if point[0] != place]
