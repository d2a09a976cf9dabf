"""What kind of value something is, as the other modules ask it."""


def is_integer(value):
    """Whether the value is an integer; True and False are none."""
    return isinstance(value, int) and not isinstance(value, bool)


def is_integer_within(value, low, high):
    """Whether the value is an integer from low to high."""
    return is_integer(value) and low <= value <= high


def plain_number(word, most):
    """The number from 0 to `most` that the word writes without needless zeros, None if it does not."""
    # The length is asked first because Python's int refuses very long words with an error of its own.
    if len(word) > len(str(most)) or not (word.isascii() and word.isdigit()):
        return None
    number = int(word)
    return number if number <= most and str(number) == word else None
