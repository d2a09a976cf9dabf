"""The console: lines of text that change and ask a desk."""

from bentthrough.desks import Desk
from bentthrough.errors import InvalidCommand
from bentthrough.frames import Frame
from bentthrough.kinds import is_name, plain_number
from bentthrough.limits import MOST_HEIGHT
from bentthrough.matches import rank
from bentthrough.meeting import curve_through


def _put(desk, name, degree, knots):
    desk.put(name, Frame(degree, knots))


def _drop(desk, name):
    desk.drop(name)


def _lift(desk, index):
    desk.lift(index)


def _undo(desk):
    desk.undo()


def _claim_all(desk, name, places):
    desk.claim(("all", name, places))


def _claim_one(desk, name, places):
    desk.claim(("one", name, places))


def _claim_rank(desk, name, number, places):
    desk.claim(("rank", name, places, number))


def _claim_within(desk, name, other):
    desk.claim(("within", name, other))


def _rank(desk, name, places):
    return str(rank(desk.thing(name), places))


def _through(desk, name, places, heights):
    return "no" if curve_through(desk.thing(name), places, heights) is None else "yes"


def _show(desk, name):
    return desk.thing(name).text


def _names(desk):
    return " ".join(desk.names)


def _claims(desk):
    return str(len(desk.claims))


# What a command of each form does: it is passed the desk and what stands for the words in capitals, in their order,
# and returns the answer; where it returns nothing, the answer is `ok`.
FORMS = {
    "put NAME degree N knots NUMBERS": _put,
    "drop NAME": _drop,
    "lift N": _lift,
    "undo": _undo,
    "claim all NAME PLACES": _claim_all,
    "claim one NAME PLACES": _claim_one,
    "claim rank NAME N PLACES": _claim_rank,
    "claim within NAME NAME": _claim_within,
    "rank NAME PLACES": _rank,
    "through NAME PLACES : HEIGHTS": _through,
    "show NAME": _show,
    "names": _names,
    "claims": _claims,
}
# How many numbers at most stand in a row of them.
ROWS = {"NUMBERS": 15, "PLACES": 12, "HEIGHTS": 12}


class Console:
    """A desk that lines of text change and ask."""

    def __init__(self):
        self._desk = Desk()

    @property
    def desk(self):
        """The desk."""
        return self._desk

    def run(self, command):
        """Does the command and returns the answer."""
        words = command.split(" ") if isinstance(command, str) else []
        for form in FORMS:
            parts = _parts_told(form.split(" "), words)
            if parts is not None:
                action = FORMS[form]
                answer = action(self._desk, *parts)
                return "ok" if answer is None else answer
        raise InvalidCommand(command)

    def __eq__(self, other):
        return isinstance(other, Console) and self._desk == other._desk


def _parts_told(form, words):
    """What the words tell for those in capitals of the form, in a list; None if they are not of this form."""
    parts, rest = [], words
    for told in form:
        many = _row_length(rest) if told in ROWS else 1
        if told in ROWS or told in ("NAME", "N"):
            part = _part_told(told, rest[:many])
            if part is None:
                return None
            parts.append(part)
        elif rest[:many] != [told]:
            return None
        rest = rest[many:]
    return None if rest else parts


def _row_length(words):
    """How many words stand ahead of the first `:`, or at all if there is none."""
    return words.index(":") if ":" in words else len(words)


def _part_told(told, words):
    """The name, the number or the row of numbers that the words tell, None if they tell none."""
    if told == "NAME":
        return words[0] if words and is_name(words[0]) else None
    if told == "N":
        return _number_told(words[0]) if words else None
    numbers = [_height_told(word) if told == "HEIGHTS" else _number_told(word) for word in words]
    return None if None in numbers or not 1 <= len(numbers) <= ROWS[told] else tuple(numbers)


def _number_told(word):
    """The integer from 0 on that the word tells, None if it tells none."""
    return plain_number(word, MOST_HEIGHT)


def _height_told(word):
    """The integer, below 0 behind a minus sign, that the word tells, None if it tells none."""
    if not word.startswith("-"):
        return _number_told(word)
    number = _number_told(word[1:])
    return -number if number else None
