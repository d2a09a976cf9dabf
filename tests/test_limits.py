"""The section `bentthrough/limits.py` of the document."""

import unittest

from bentthrough import limits

TOLD = (("MOST_DEGREE", 4), ("MOST_KNOT", 1000000), ("MOST_HILLS", 10), ("MOST_PLACES", 12),
        ("MOST_HEIGHT", 100000000000000000000), ("MOST_OFFERS", 6))


class LimitsTest(unittest.TestCase):
    def test_each_number(self):
        for name, number in TOLD:
            with self.subTest(name=name):
                self.assertEqual(getattr(limits, name), number)
                self.assertIs(getattr(limits, name).__class__, int)


if __name__ == "__main__":
    unittest.main()
