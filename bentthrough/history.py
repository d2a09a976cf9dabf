"""What boards and desks hold, with all that can be taken back, and the trials that end as they began."""

from bentthrough.errors import NothingToUndo


class Moment:
    """What is held after so many changes, with the moment before the last of them."""

    def __init__(self, held, many, before):
        self.held = held
        self.many = many
        self.before = before


class History:
    """The present moment, behind which all earlier ones stand; no moment ever changes."""

    def __init__(self, held):
        self.now = Moment(held, 0, None)

    def change(self, held):
        """Puts this in the place of what is held."""
        self.now = Moment(held, self.now.many + 1, self.now)

    def undo(self):
        """Takes back the last change that has not been taken back."""
        if self.now.before is None:
            raise NothingToUndo()
        self.now = self.now.before


class Entry:
    """The moment at which the rows of a `with` statement began, with the entry of the one around it."""

    def __init__(self, moment, outer):
        self.moment = moment
        self.outer = outer


class Trial:
    """For a `with` statement: gives the owner of a history, and at the end of the rows puts back all that was."""

    def __init__(self, owner, history):
        self._owner = owner
        self._history = history
        # The entries are kept one behind the other, so that a trial can be used within itself.
        self._entry = None

    def __enter__(self):
        self._entry = Entry(self._history.now, self._entry)
        return self._owner

    def __exit__(self, kind, value, trace):
        history = self._history
        entry = self._entry
        history.now = entry.moment
        self._entry = entry.outer


class StayingTrial(Trial):
    """A trial that puts back what was only if its rows end with an exception."""

    def __exit__(self, kind, value, trace):
        history = self._history
        entry = self._entry
        if kind is not None:
            history.now = entry.moment
        self._entry = entry.outer
