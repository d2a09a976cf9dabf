"""What [3] says of integers, fractions and names, how fractions are reckoned with, and numbers in texts ([6])."""

import unittest
from fractions import Fraction

from anything import NO_INTEGERS, NO_STRINGS
from bentthrough.kinds import (is_fraction, is_integer, is_integer_within, is_name, plain_number, plus, reduced,
                               sum_of_products, times)
from reckoned import pair
from wrongs import NO_FRACTIONS


class KindsTest(unittest.TestCase):
    def test_integers(self):
        for value in (0, 1, -1, 7, 10 ** 59, -10 ** 59):
            self.assertIs(is_integer(value), True)
        for value in NO_INTEGERS:
            with self.subTest(value=value):
                self.assertIs(is_integer(value), False)
                self.assertIs(is_integer_within(value, 0, 9), False)

    def test_bounds(self):
        for value, inside in ((-1, False), (0, True), (1, True), (8, True), (9, True), (10, False)):
            self.assertIs(is_integer_within(value, 0, 9), inside)

    def test_numbers_in_plain_digits(self):
        for word, number in (("0", 0), ("1", 1), ("9", 9), ("10", 10), ("999", 999), ("1000", 1000)):
            self.assertEqual(plain_number(word, 1000), number)
        for word in ("", "00", "01", "0010", "1001", "9999", "10000", "9" * 8000, "0" * 8000, "-1", "-0", "+1", "1_0",
                     " 1", "1 ", "1\n", "x", "0x1", "1.0", "1e2", "\u0663", "\u00b2"):
            with self.subTest(word=word[:20]):
                self.assertIsNone(plain_number(word, 1000))

    def test_names(self):
        for value in ("a", "z", "az", "abcdefgh", "ijklmnop", "qrstuvwx", "yz", "zzzzzzzz"):
            self.assertIs(is_name(value), True)
        for value in (*NO_STRINGS, "", "abcdefghi", "a" * 8000, "A", "aB", "Ab", "a1", "1", " ", "a ", " a", "a b",
                      "a\n", "\n", "a_", "-", "{", "`", "\u00e9", "\u0430", "a\u00df", "\u00aa"):
            with self.subTest(value=value):
                self.assertIs(is_name(value), False)

    def test_fractions(self):
        for value in ((0, 1), (1, 1), (-1, 1), (1, 2), (-3, 7), (10 ** 59, 1), (1, 10 ** 59), (-10 ** 60, 10 ** 60 + 1),
                      (-9, 4), (12, 1)):
            with self.subTest(value=value):
                self.assertIs(is_fraction(value), True)
        for value in NO_FRACTIONS:
            with self.subTest(value=value):
                self.assertIs(is_fraction(value), False)

    def test_reduced(self):
        for top in range(-12, 13):
            for bottom in (*range(-12, 0), *range(1, 13)):
                self.assertEqual(reduced(top, bottom), pair(Fraction(top, bottom)))

    def test_sums_and_products(self):
        parts = [Fraction(top, bottom) for top in range(-4, 5) for bottom in (1, 2, 3, 6)]
        for one in parts:
            for other in parts:
                self.assertEqual(plus(pair(one), pair(other)), pair(one + other))
                self.assertEqual(times(pair(one), pair(other)), pair(one * other))
        ones, others = parts[:9], parts[-9:]
        self.assertEqual(sum_of_products([pair(one) for one in ones], [pair(other) for other in others]),
                         pair(sum(one * other for one, other in zip(ones, others))))
        self.assertEqual(sum_of_products([], []), (0, 1))


if __name__ == "__main__":
    unittest.main()
