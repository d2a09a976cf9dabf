"""The section `bentthrough/squares.py` of the document."""

import unittest
from fractions import Fraction
from itertools import combinations

from at_hand import BOW, FRAMES, RAMP, WIDE, places_near, small_frames
from bentthrough import squares
from bentthrough.curves import Curve
from bentthrough.errors import NotOne
from bentthrough.frames import Frame
from bentthrough.meeting import curve_through
from bentthrough.squares import miss, nearest
from examples import check_examples
from reckoned import curve_value, pair, table, table_rank
from wrongs import FRAMES as NO_FRAME_ROWS
from wrongs import PLACES, check_error, check_last, check_ways, check_wrong
from wrongs import heights as height_rows

EXAMPLES = """
>>> from bentthrough.squares import miss, nearest
>>> [nearest(ramp, (1, 2, 5), (1, 1, 1)).amounts, miss(ramp, (1, 2, 5), (1, 1, 1)), miss(ramp, (1, 2), (1, 2)), miss(ramp, (7,), (3,))]
[((6, 5), (2, 1)), (1, 5), (0, 1), (9, 1)]
"""
GREAT = 10 ** 20


def product_of(ones, others):
    """The sum of the products of what stands side by side."""
    return sum((one * other for one, other in zip(ones, others)), Fraction(0))


def left_over(columns, heights):
    """What is left of the heights if all that the columns make up is taken off, at right angles to each of these."""
    rest, straight = [Fraction(height) for height in heights], []
    for column in columns:
        for other in straight:
            share = product_of(column, other) / product_of(other, other)
            column = [one - share * two for one, two in zip(column, other)]
        if any(column):
            straight.append(column)
            share = product_of(rest, column) / product_of(column, column)
            rest = [one - share * two for one, two in zip(rest, column)]
    return rest


def rows_near(frame):
    """Some ascending rows of places near the knots, of one to twelve places."""
    near = places_near(frame)
    rows = [tuple(near[start:start + many]) for many in (1, 3, 5, 8, 12) for start in (0, 2)]
    rows.append(tuple(near[::2][:12]))
    return sorted({row for row in rows if row})


def some_heights(many):
    """Heights of some kinds for so many places."""
    yield tuple((7 * index * index - 5) % 11 - 5 for index in range(many))
    yield tuple(GREAT if index % 2 else -GREAT for index in range(many))
    yield (0,) * many


class ExamplesTest(unittest.TestCase):
    def test_examples_of_the_document(self):
        check_examples(self, EXAMPLES, {"ramp": RAMP})

    def test_all_is_defined_in_its_file(self):
        for name in ("nearest", "miss"):
            self.assertEqual(getattr(squares, name).__module__, "bentthrough.squares")


class SquaresTest(unittest.TestCase):
    def check_squares(self, frame, places, heights):
        arguments = {"frame": frame, "places": places, "heights": heights}
        columns = list(zip(*table(frame, places)))
        rest = left_over(columns, heights)
        least = product_of(rest, rest)
        self.assertEqual(check_ways(self, miss, arguments), pair(least))
        free = table_rank(frame, places)
        if free < frame.hills:
            check_error(self, nearest, arguments, NotOne, "rank", free)
            return
        curve = check_ways(self, nearest, arguments)
        self.assertEqual((curve.__class__, curve.frame), (Curve, frame))
        differences = [curve_value(curve, place) - height for place, height in zip(places, heights)]
        for column in columns:
            self.assertEqual(product_of(differences, column), 0)
        self.assertEqual(product_of(differences, differences), least)

    def test_differences_at_right_angles_to_each_hill(self):
        for frame in (*FRAMES, *WIDE):
            for places in rows_near(frame):
                for heights in some_heights(len(places)):
                    with self.subTest(frame=frame.text, places=places, heights=heights):
                        self.check_squares(frame, places, heights)

    def test_small_frames(self):
        for degree, many, most in ((0, 2, 3), (1, 2, 3), (2, 2, 2), (3, 1, 2)):
            for frame in small_frames(degree, many, most)[::2]:
                with self.subTest(frame=frame.text):
                    for length in (1, 2, 3, 4):
                        for places in combinations(range(most + 2), length):
                            self.check_squares(frame, places, (2, -3, 5, 1)[:length])

    def test_other_curves_are_not_nearer(self):
        for frame, places, heights in ((RAMP, (1, 2, 5), (1, 1, 1)), (BOW, (0, 1, 2, 3, 4), (3, 0, -2, 7, 1)),
                                       (Frame(0, (0, 3, 9)), (0, 1, 5, 6, 9), (1, 2, 7, 7, 6))):
            least = Fraction(*miss(frame, places, heights))
            amounts = nearest(frame, places, heights).amounts
            for hill in range(frame.hills):
                for more in (Fraction(1, 100), Fraction(-1, 100), Fraction(3)):
                    changed = [Fraction(*amount) + (more if at == hill else 0) for at, amount in enumerate(amounts)]
                    curve = Curve(frame, tuple(pair(amount) for amount in changed))
                    total = sum((curve_value(curve, place) - height) ** 2 for place, height in zip(places, heights))
                    self.assertGreater(total, least)

    def test_heights_that_a_curve_goes_through(self):
        for frame, places, heights in ((RAMP, (1, 5), (3, 1)), (RAMP, (1, 2, 5), (1, 2, 7)),
                                       (BOW, (0, 2, 4), (9, 0, 5)), (RAMP, (0, 1, 2, 5, 6, 9), (0, 2, 4, -1, 0, 0))):
            self.assertEqual(nearest(frame, places, heights), curve_through(frame, places, heights))
            self.assertEqual(miss(frame, places, heights), (0, 1))

    def test_several_curves_have_the_least_sum(self):
        for frame, places, heights, told in (
            (RAMP, (1, 2), (1, 1), (1, 5)), (RAMP, (1,), (7,), (0, 1)), (RAMP, (7, 8), (3, -4), (25, 1)),
            (RAMP, (1, 7), (5, 2), (4, 1)), (BOW, (1, 9), (5, GREAT), (GREAT * GREAT, 1)),
            (Frame(0, (0, 4, 8)), (1, 2, 3), (1, 2, 6), (14, 1)), (Frame(0, (0, 4, 8)), (1, 2), (1, 2), (1, 2)),
        ):
            with self.subTest(frame=frame.text, places=places):
                self.assertEqual(miss(frame, places, heights), told)
                self.check_squares(frame, places, heights)

    def test_mean_of_the_heights(self):
        frame = Frame(0, (0, 4, 9))
        self.assertEqual(nearest(frame, (0, 1, 3, 4, 9), (1, 2, 4, 5, 8)).amounts, ((7, 3), (13, 2)))
        self.assertEqual(miss(frame, (0, 1, 3, 4, 9), (1, 2, 4, 5, 8)), (55, 6))


class ArgumentsTest(unittest.TestCase):
    def test_wrong_arguments(self):
        right = {"frame": RAMP, "places": (1, 2, 5), "heights": (1, 1, 1)}
        wrong = {"frame": NO_FRAME_ROWS, "places": PLACES, "heights": height_rows(3)}
        check_wrong(self, nearest, right, wrong)
        check_wrong(self, miss, right, wrong)
        twelve = {"frame": RAMP, "places": tuple(range(12)), "heights": (GREAT, -GREAT) * 6}
        check_wrong(self, nearest, twelve, {"heights": height_rows(12)})
        check_wrong(self, miss, twelve, {"heights": height_rows(12)})

    def test_not_one_comes_last(self):
        for frame, places, free in ((RAMP, (1, 2, 7), 1), (RAMP, (6, 7, 8), 0), (BOW, (0, 1, 9), 2),
                                    (BOW, (5, 6, 7), 0)):
            wrong = {"frame": NO_FRAME_ROWS, "places": PLACES, "heights": height_rows(3)}
            arguments = {"frame": frame, "places": places, "heights": (1, 0, 1)}
            check_last(self, nearest, arguments, (NotOne, "rank", free), wrong)

    def test_fewer_places_than_hills(self):
        check_error(self, nearest, {"frame": BOW, "places": (1, 2), "heights": (0, 0)}, NotOne, "rank", 2)
        check_error(self, nearest, {"frame": RAMP, "places": (3,), "heights": (0,)}, NotOne, "rank", 1)

    def test_calls_change_nothing(self):
        frame = Frame(1, (0, 2, 4, 6))
        for _ in range(2):
            self.assertEqual(nearest(frame, (1, 2, 5), (1, 1, 1)).amounts, ((6, 5), (2, 1)))
            self.assertEqual(miss(frame, (1, 2, 5), (1, 1, 1)), (1, 5))
        self.assertEqual(frame, RAMP)


if __name__ == "__main__":
    unittest.main()
