"""The section `bentthrough/bounds.py` of the document."""

import unittest
from itertools import combinations_with_replacement, product

from at_hand import BOW, FRAMES, RAMP, WIDE, small_frames
from bentthrough import bounds
from bentthrough.bounds import always_one, range_at, some_row
from bentthrough.errors import InvalidHeights, InvalidPlaces, NotOne
from bentthrough.frames import Frame
from bentthrough.matches import just_one
from bentthrough.meeting import curve_through
from examples import check_examples
from reckoned import curve_value, pair, table_rank
from wrongs import FRAMES as NO_FRAME_ROWS
from wrongs import NO_HEIGHT, NO_PLACE, PLACE, PLACES, check_last, check_ways, check_wrong, index, rows_of

EXAMPLES = """
>>> from bentthrough.bounds import always_one, range_at, some_row
>>> [always_one(ramp, (1, 3), (2, 5)), always_one(ramp, (1, 3), (2, 6)), some_row(ramp, (0, 0), (6, 6)), some_row(ramp, (0, 0), (6, 2)), always_one(ramp, (3, 3), (3, 3))]
[True, False, (1, 3), None, True]
>>> [range_at(ramp, (1, 5), (0, 0), (1, 1), 3), range_at(bow, (0, 2, 4), (0, 0, 0), (1, 1, 1), 1)]
[((0, 1), (2, 1)), ((-1, 8), (9, 8))]
"""
LAST = 10 ** 6
GREAT = 10 ** 20


def ascending(lows, highs):
    """All ascending rows between the bounds."""
    rows = product(*[range(low, high + 1) for low, high in zip(lows, highs)])
    return [row for row in rows if all(one < other for one, other in zip(row, row[1:]))]


def small_bounds(many, most):
    """All pairs (lows, highs) of so many bounds from 0 to `most`."""
    pairs = list(combinations_with_replacement(range(most + 1), 2))
    return [tuple(zip(*chosen)) for chosen in product(pairs, repeat=many)]


class ExamplesTest(unittest.TestCase):
    def test_examples_of_the_document(self):
        check_examples(self, EXAMPLES, {"ramp": RAMP, "bow": BOW})

    def test_all_is_defined_in_its_file(self):
        for name in ("always_one", "some_row", "range_at"):
            self.assertEqual(getattr(bounds, name).__module__, "bentthrough.bounds")


class RowsTest(unittest.TestCase):
    def check_rows(self, frame, lows, highs):
        rows = ascending(lows, highs)
        good = [row for row in rows if table_rank(frame, row) == frame.hills]
        arguments = {"frame": frame, "lows": lows, "highs": highs}
        self.assertIs(check_ways(self, always_one, arguments), len(good) == len(rows))
        self.assertEqual(check_ways(self, some_row, arguments), good[0] if good else None)

    def test_all_small_bounds_of_few_hills(self):
        for degree, many, most in ((0, 1, 3), (0, 2, 3), (1, 1, 3), (1, 2, 3), (2, 1, 3), (4, 1, 2)):
            for frame in small_frames(degree, many, most)[::2]:
                with self.subTest(frame=frame.text):
                    for lows, highs in small_bounds(many, 4):
                        self.check_rows(frame, lows, highs)

    def test_three_hills(self):
        chosen = small_bounds(3, 4)[::41]
        for frame in (Frame(0, (0, 1, 3, 4)), Frame(1, (0, 1, 2, 3, 4)), Frame(1, (0, 0, 2, 4, 4)), BOW,
                      Frame(2, (0, 0, 1, 1, 3, 4)), Frame(1, (0, 2, 2, 4, 5)), Frame(3, (0, 0, 1, 2, 3, 4, 4))):
            with self.subTest(frame=frame.text):
                for lows, highs in chosen:
                    self.check_rows(frame, lows, highs)

    def test_four_hills(self):
        frame = Frame(2, (0, 1, 3, 4, 6, 7, 8))
        for lows, highs in (((0, 0, 0, 0), (8, 8, 8, 8)), ((0, 2, 2, 4), (3, 4, 5, 7)), ((1, 2, 4, 5), (2, 3, 5, 7)),
                            ((1, 2, 4, 5), (2, 3, 5, 8)), ((2, 2, 2, 2), (5, 5, 5, 5)), ((3, 3, 3, 3), (5, 5, 5, 5)),
                            ((1, 0, 4, 0), (3, 8, 4, 8)), ((0, 3, 3, 7), (1, 4, 6, 7)), ((4, 0, 0, 0), (8, 8, 8, 8))):
            with self.subTest(lows=lows, highs=highs):
                self.check_rows(frame, lows, highs)

    def test_integers_that_stand_in_no_row_are_not_asked(self):
        # 0 and 6 are no places for RAMP's hills, but no ascending row holds them here.
        self.assertIs(always_one(RAMP, (2, 0), (3, 5)), True)
        self.assertIs(always_one(RAMP, (2, 5), (6, 5)), False)
        self.assertIs(always_one(RAMP, (2, 3), (6, 4)), True)
        self.assertIs(always_one(RAMP, (0, 3), (3, 5)), False)

    def test_bounds_between_which_no_row_stands(self):
        for lows, highs in (((3, 3), (3, 3)), ((5, 0), (6, 5)), ((LAST, LAST), (LAST, LAST)), ((4, 0), (LAST, 4))):
            with self.subTest(lows=lows, highs=highs):
                self.assertIs(always_one(RAMP, lows, highs), True)
                self.assertIsNone(some_row(RAMP, lows, highs))

    def test_wide_bounds(self):
        for frame in (*FRAMES, *WIDE):
            lows, highs = (0,) * frame.hills, (LAST,) * frame.hills
            with self.subTest(frame=frame.text):
                row = some_row(frame, lows, highs)
                if row is not None:
                    self.assertTrue(just_one(frame, row))
                    self.assertIs(always_one(frame, row, row), True)
                ends = (tuple(range(frame.hills)), tuple(range(LAST + 1 - frame.hills, LAST + 1)))
                self.assertIs(always_one(frame, lows, highs), all(just_one(frame, end) for end in ends))

    def test_wide_bounds_by_hand(self):
        wide = Frame(2, (0, 0, 0, 333333, LAST, LAST, LAST))
        self.assertEqual(some_row(wide, (0,) * 4, (LAST,) * 4), (0, 1, 2, 333334))
        self.assertEqual(some_row(wide, (5, 0, 0, 9), (LAST,) * 4), (5, 6, 7, 333334))
        self.assertEqual(some_row(wide, (5, 0, 0, 9), (LAST, LAST, 6, LAST)), None)
        self.assertIs(always_one(wide, (0, 2, 333333, 999999), (1, 999998, 999998, LAST)), True)
        self.assertIs(always_one(wide, (0, 2, 333333, 333334), (333333, 999998, 999998, LAST)), False)
        self.assertIs(always_one(wide, (0, 2, 333333, 333334), (333332, 999998, 999998, LAST)), True)
        self.assertIs(always_one(Frame(0, (0, LAST)), (0,), (LAST,)), True)
        self.assertEqual(some_row(Frame(0, (7, LAST)), (0,), (LAST,)), (7,))

    def test_rows_that_are_out_of_reach(self):
        stairs = Frame(0, tuple(range(0, 22, 2)))
        self.assertEqual(some_row(stairs, (0,) * 10, (LAST,) * 10), tuple(range(0, 20, 2)))
        self.assertIsNone(some_row(stairs, (0,) * 10, (LAST,) * 9 + (17,)))
        self.assertIs(always_one(stairs, tuple(range(0, 20, 2)), tuple(range(1, 21, 2))), True)
        self.assertIs(always_one(stairs, tuple(range(0, 20, 2)), tuple(range(2, 22, 2))), False)
        # A hill that stands at no integer.
        self.assertIsNone(some_row(Frame(1, (0, 1, 1, 2)), (0, 0), (9, 9)))
        self.assertIs(always_one(Frame(1, (0, 1, 1, 2)), (0, 1), (9, 1)), False)


class RangeTest(unittest.TestCase):
    def check_range(self, frame, places, lows, highs, place):
        curves = [curve_through(frame, places, heights) for heights in product(*zip(lows, highs))]
        values = [curve_value(curve, place) for curve in curves]
        arguments = {"frame": frame, "places": places, "lows": lows, "highs": highs, "place": place}
        self.assertEqual(check_ways(self, range_at, arguments), (pair(min(values)), pair(max(values))))

    def test_all_heights_that_are_bounds(self):
        for frame, places in ((RAMP, (1, 5)), (RAMP, (2, 3)), (BOW, (0, 2, 4)), (BOW, (1, 2, 3)),
                              (Frame(0, (0, 3)), (2,)), (Frame(3, (0, 0, 1, 4, 6, 6)), (2, 5)),
                              (Frame(4, (0, 1, 3, 4, 6, 9, 9)), (2, 5)),
                              (Frame(2, (0, 0, 0, 3, 6, 6, 6)), (0, 2, 3, 6))):
            lows, highs = (-3, 0, 2, -1)[:len(places)], (1, 0, 5, 4)[:len(places)]
            for place in (*range(8), 10 ** 6):
                with self.subTest(frame=frame.text, places=places, place=place):
                    self.check_range(frame, places, lows, highs, place)
                    self.check_range(frame, places, lows, lows, place)
                    self.check_range(frame, places, (-GREAT,) * len(places), (GREAT,) * len(places), place)

    def test_at_the_places_themselves(self):
        for number, place in enumerate((0, 2, 4)):
            lows, highs = (-5, -6, -7), (1, 2, 3)
            self.assertEqual(range_at(BOW, (0, 2, 4), lows, highs, place), ((lows[number], 1), (highs[number], 1)))

    def test_outside_of_the_knots(self):
        self.assertEqual(range_at(RAMP, (1, 5), (-GREAT, 3), (GREAT, 3), 9), ((0, 1), (0, 1)))

    def test_many_places(self):
        frame = Frame(4, (0, 1, 3, 4, 6, 7, 9, 10, 12, 13, 15, 16, 18, 19, 21))
        places = (2, 4, 5, 7, 8, 10, 11, 13, 15, 17)
        least, greatest = range_at(frame, places, (0,) * 10, (1,) * 10, 9)
        shares = [curve_value(curve_through(frame, places, tuple(int(at == other) for other in range(10))), 9)
                  for at in range(10)]
        self.assertEqual(least, pair(sum(share for share in shares if share < 0)))
        self.assertEqual(greatest, pair(sum(share for share in shares if share > 0)))


class ArgumentsTest(unittest.TestCase):
    def bound_rows(self, error_class, wrong, lows):
        """Wrong lower bounds, and wrong upper bounds beside these lower ones, which are the same integer each."""
        many, low = len(lows), lows[0]
        low_rows = rows_of(many, wrong, low)
        below = [((low,) * at + (low - 1,) * (many - at), at) for at in range(many)]
        below += [((low - 1,) * many + (low,), None), ((low,) * (many - 1), None)]
        # The first wrong one counts, whatever is wrong with it.
        below += [((low, low - 1, None, *lows[3:]), 1), ((low, None, low - 1, *lows[3:]), 1)] if many > 2 else []
        return index(error_class, low_rows), index(error_class, low_rows + below)

    def test_wrong_arguments_of_rows(self):
        low_rows, high_rows = self.bound_rows(InvalidPlaces, NO_PLACE, (3, 3, 3))
        right = {"frame": BOW, "lows": (3, 3, 3), "highs": (3, 4, 5)}
        wrong = {"frame": NO_FRAME_ROWS, "lows": low_rows, "highs": high_rows}
        check_wrong(self, always_one, right, wrong)
        check_wrong(self, some_row, right, wrong)

    def test_wrong_arguments_of_range_at(self):
        low_rows, high_rows = self.bound_rows(InvalidHeights, NO_HEIGHT, (-4, -4, -4))
        right = {"frame": BOW, "places": (0, 2, 4), "lows": (-4, -4, -4), "highs": (-4, 0, 9), "place": 1}
        wrong = {"frame": NO_FRAME_ROWS, "places": PLACES, "lows": low_rows, "highs": high_rows, "place": PLACE}
        check_wrong(self, range_at, right, wrong)
        for places, rank in (((5, 6, 7), 0), ((1, 6, 7), 1), ((0, 4, 5), 2)):
            check_last(self, range_at, {**right, "places": places}, (NotOne, "rank", rank), wrong)

    def test_not_one_where_places_are_not_as_many_as_hills(self):
        for places, rank in (((1, 2), 2), ((1,), 1), ((1, 2, 3, 4), 3), ((0, 6), 1), (tuple(range(12)), 3)):
            bound = (0,) * len(places)
            arguments = {"frame": BOW, "places": places, "lows": bound, "highs": bound, "place": 1}
            check_last(self, range_at, arguments, (NotOne, "rank", rank), {"place": PLACE})

    def test_bounds_that_are_right(self):
        self.assertIsNone(some_row(RAMP, (LAST, LAST), (LAST, LAST)))
        self.assertEqual(some_row(RAMP, (5, 0), (5, LAST)), None)
        self.assertEqual(range_at(RAMP, (1, 5), (-GREAT, GREAT), (-GREAT, GREAT), 1), ((-GREAT, 1), (-GREAT, 1)))

    def test_calls_change_nothing(self):
        frame = Frame(1, (0, 2, 4, 6))
        for _ in range(2):
            self.assertEqual((always_one(frame, (1, 3), (2, 5)), some_row(frame, (0, 0), (6, 6)),
                              range_at(frame, (1, 5), (0, 0), (1, 1), 3)), (True, (1, 3), ((0, 1), (2, 1))))
        self.assertEqual(frame, RAMP)


if __name__ == "__main__":
    unittest.main()
