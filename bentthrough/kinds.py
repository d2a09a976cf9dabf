"""What an integer, a fraction and a name is, and how to reckon with fractions."""

from math import gcd

ZERO = (0, 1)
ONE = (1, 1)
MOST_LETTERS = 8


def is_integer(value):
    """Whether the value is an integer; True and False are none."""
    return isinstance(value, int) and not isinstance(value, bool)


def is_integer_within(value, low, high):
    """Whether the value is an integer from low to high."""
    return is_integer(value) and low <= value <= high


def is_name(value):
    """Whether the value is a string of one to eight letters from `a` to `z`."""
    if not isinstance(value, str) or len(value) > MOST_LETTERS:
        return False
    return value.isascii() and value.isalpha() and value.islower()


def plain_number(word, most):
    """The number from 0 to `most` that the word writes without needless zeros, None if it does not."""
    # The length is asked first because Python's int refuses very long words with an error of its own.
    if len(word) > len(str(most)) or not (word.isascii() and word.isdigit()):
        return None
    number = int(word)
    return number if number <= most and str(number) == word else None


def is_fraction(value):
    """Whether the value is a pair (top, bottom) without a common divisor above 1, the bottom from 1 on."""
    if not isinstance(value, tuple) or len(value) != 2:
        return False
    top, bottom = value
    return is_integer(top) and is_integer(bottom) and bottom >= 1 and gcd(top, bottom) == 1


def reduced(top, bottom):
    """The fraction that is top over bottom, which is not 0."""
    common = gcd(top, bottom) if bottom > 0 else -gcd(top, bottom)
    return top // common, bottom // common


def plus(one, other):
    """The sum of two fractions."""
    return reduced(one[0] * other[1] + other[0] * one[1], one[1] * other[1])


def times(one, other):
    """The product of two fractions."""
    return reduced(one[0] * other[0], one[1] * other[1])


def sum_of_products(ones, others):
    """The sum of the products of the fractions that stand side by side."""
    total = ZERO
    for one, other in zip(ones, others):
        total = plus(total, times(one, other))
    return total
