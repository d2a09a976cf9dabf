"""Desks: frames under names, and claims about them that hold after each change."""

from bentthrough.errors import Broken, InUse, InvalidClaim, InvalidIndex, InvalidName, UnknownName
from bentthrough.frames import check_frame, within
from bentthrough.history import History, StayingTrial
from bentthrough.kinds import is_integer_within, is_name
from bentthrough.limits import MOST_PLACES
from bentthrough.matches import are_places, rank_of

# How many elements a claim with this word has.
LENGTHS = {"all": 3, "one": 3, "rank": 4, "within": 3}


class Desk:
    """Frames and claims, all changes of which can be taken back."""

    def __init__(self):
        self._history = History(({}, ()))

    @property
    def names(self):
        """The names of the frames, ascending."""
        return tuple(sorted(list(self._history.now.held[0])))

    @property
    def claims(self):
        """The claims, in their order."""
        return self._history.now.held[1]

    @property
    def changes(self):
        """How many changes can be taken back."""
        return self._history.now.many

    def __contains__(self, name):
        return is_name(name) and name in self._history.now.held[0]

    def put(self, name, frame):
        """Puts the frame under the name, also in the place of what is there."""
        if not is_name(name):
            raise InvalidName(name)
        check_frame(frame)
        frames, claims = self._history.now.held
        changed = {**frames, name: frame}
        _check_all_hold(changed, claims)
        self._history.change((changed, claims))

    def thing(self, name):
        """The frame under the name."""
        if name not in self:
            raise UnknownName(name)
        return self._history.now.held[0][name]

    def drop(self, name):
        """Takes the frame under the name away, which no claim may name."""
        if name not in self:
            raise UnknownName(name)
        frames, claims = self._history.now.held
        for index, claim in enumerate(claims):
            if name in _names_of(claim):
                raise InUse(index)
        self._history.change(({other: frames[other] for other in frames if other != name}, claims))

    def claim(self, claim):
        """Makes one claim more, behind the others."""
        if not _is_claim(claim):
            raise InvalidClaim(claim)
        for name in _names_of(claim):
            if name not in self:
                raise UnknownName(name)
        frames, claims = self._history.now.held
        changed = (*claims, claim)
        _check_all_hold(frames, changed)
        self._history.change((frames, changed))

    def lift(self, index):
        """Takes the claim with this index away."""
        frames, claims = self._history.now.held
        if not is_integer_within(index, 0, len(claims) - 1):
            raise InvalidIndex(index)
        self._history.change((frames, claims[:index] + claims[index + 1:]))

    def undo(self):
        """Takes back the last change that has not been taken back."""
        self._history.undo()

    def trial(self):
        """For a `with` statement; if its rows end with an exception, the desk is as it was when they began."""
        return StayingTrial(self, self._history)

    def tried(self, action):
        """What the action returns, which is called with the desk; if it fails, the desk is as it was."""
        with self.trial() as desk:
            return action(desk)

    def __eq__(self, other):
        # Each desk has a history of its own; without this method Python would ask the other side, of any kind.
        return isinstance(other, Desk) and self._history == other._history


def _is_claim(claim):
    """Whether this has the form of a claim, with anything in the places of its names."""
    if not isinstance(claim, tuple) or not claim or not isinstance(claim[0], str):
        return False
    if len(claim) != LENGTHS.get(claim[0]):
        return False
    if claim[0] == "within":
        return True
    return are_places(claim[2]) and (claim[0] != "rank" or is_integer_within(claim[3], 0, MOST_PLACES))


def _names_of(claim):
    """The names that the claim is about."""
    return claim[1:3] if claim[0] == "within" else claim[1:2]


def _check_all_hold(frames, claims):
    """Raises Broken unless all claims hold for these frames."""
    for index, claim in enumerate(claims):
        holds, shown = _asked(frames, claim)
        if not holds:
            raise Broken(index, shown)


def _asked(frames, claim):
    """Whether the claim holds, and what shows it."""
    word, frame = claim[0], frames[claim[1]]
    if word == "within":
        return within(frame, frames[claim[2]]), None
    places = claim[2]
    free = rank_of(frame, places)
    if word == "rank":
        return free >= claim[3], free
    return free == len(places) and (word == "all" or free == frame.hills), free
