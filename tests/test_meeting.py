"""The section `bentthrough/meeting.py` of the document, and [9] to [11]."""

import unittest
from fractions import Fraction
from itertools import combinations
from math import gcd

from at_hand import BOW, FRAMES, RAMP, WIDE, places_near, small_frames
from bentthrough import meeting
from bentthrough.curves import Curve
from bentthrough.errors import NotOne
from bentthrough.frames import Frame
from bentthrough.matches import just_one, rank
from bentthrough.meeting import bar, curve_through, lifted, nothing_at
from examples import check_examples
from reckoned import curve_value, is_met, pair, rows_rank, table, table_rank
from wrongs import FRAMES as NO_FRAME_ROWS
from wrongs import PLACES, check_error, check_last, check_ways, check_wrong
from wrongs import heights as height_rows
from wrongs import hills as index_rows

EXAMPLES = """
>>> from bentthrough.meeting import bar, curve_through, lifted, nothing_at
>>> [curve_through(ramp, (1, 5), (3, 1)).amounts, curve_through(ramp, (1, 2), (1, 1)), bar(ramp, (1, 2), (1, 1)) in ((2, -1), (-2, 1)), bar(ramp, (1, 2), (1, 2)), len(nothing_at(ramp, (1, 2))), nothing_at(ramp, (1, 5))]
[((6, 1), (2, 1)), None, True, None, 1, ()]
>>> [lifted(bow, (0, 2, 4), 1).amounts, lifted(bow, (0, 2, 4), 0).amounts, curve_through(bow, (1, 2, 3), (1, 1, 1)).amounts]
[((0, 1), (2, 1), (0, 1)), ((1, 1), (-1, 2), (0, 1)), ((1, 1), (1, 1), (1, 1))]
"""
GREAT = 10 ** 20


def some_rows(frame):
    """Some ascending rows of places near the knots of the frame."""
    near = places_near(frame)
    rows = [tuple(near[start:start + many * step:step]) for many in (1, 2, 4, 7, 12) for start in (0, 3)
            for step in (1, 2)]
    return sorted({row for row in rows if row})


def some_heights(frame, places):
    """Heights for the places: of a curve of the frame as far as they are integers, and others."""
    near = [sum((hill + 1) * part for hill, part in enumerate(row)) for row in table(frame, places)]
    common = 1
    for part in near:
        common = common * part.denominator // gcd(common, part.denominator)
    if common * max(abs(part) for part in near) <= GREAT:
        yield tuple(int(common * part) for part in near)
    yield tuple((7 * index * index - 5) % 11 - 5 for index in range(len(places)))
    yield (0,) * len(places)
    yield tuple(GREAT if index % 2 else -GREAT for index in range(len(places)))
    yield (1,) * len(places)


def just_one_rows(frame):
    """Some rows of as many places as hills, in which each hill stands at its place."""
    found = []
    for step in (0, 1, 2):
        row = []
        for hill in range(frame.hills):
            low, high = frame.knots[hill], frame.knots[hill + frame.degree + 1]
            row.append(max(low + 1, (low * (3 - step) + high * (step + 1)) // 4, *[place + 1 for place in row[-1:]]))
        if max(row) <= 10 ** 6 and just_one(frame, tuple(row)):
            found.append(tuple(row))
    return found


class ExamplesTest(unittest.TestCase):
    def test_examples_of_the_document(self):
        check_examples(self, EXAMPLES, {"ramp": RAMP, "bow": BOW})

    def test_all_is_defined_in_its_file(self):
        for name in ("curve_through", "bar", "nothing_at", "lifted"):
            self.assertEqual(getattr(meeting, name).__module__, "bentthrough.meeting")


class ThroughTest(unittest.TestCase):
    def check_met(self, frame, places, heights):
        arguments = {"frame": frame, "places": places, "heights": heights}
        curve = check_ways(self, curve_through, arguments)
        self.assertIs(curve.__class__, Curve)
        self.assertEqual(curve.frame, frame)
        self.assertEqual([curve_value(curve, place) for place in places], list(heights))
        self.assertIsNone(check_ways(self, bar, arguments))
        return curve

    def check_barred(self, frame, places, heights):
        arguments = {"frame": frame, "places": places, "heights": heights}
        self.assertIsNone(check_ways(self, curve_through, arguments))
        weights = check_ways(self, bar, arguments)
        self.assertEqual((weights.__class__, {weight.__class__ for weight in weights}), (tuple, {int}))
        self.assertEqual((len(weights), gcd(*weights)), (len(places), 1))
        for column in zip(*table(frame, places)):
            self.assertEqual(sum(weight * part for weight, part in zip(weights, column)), 0)
        self.assertNotEqual(sum(weight * height for weight, height in zip(weights, heights)), 0)

    def check_heights(self, frame, places, heights):
        if is_met(frame, places, heights):
            self.check_met(frame, places, heights)
        else:
            self.check_barred(frame, places, heights)

    def test_heights_of_all_kinds(self):
        for frame in (*FRAMES, *WIDE):
            for places in some_rows(frame):
                for heights in some_heights(frame, places):
                    with self.subTest(frame=frame.text, places=places, heights=heights):
                        self.check_heights(frame, places, heights)

    def test_small_frames(self):
        for degree, many, most in ((0, 2, 3), (1, 2, 3), (2, 2, 3), (3, 1, 2)):
            for frame in small_frames(degree, many, most):
                with self.subTest(frame=frame.text):
                    for length in (1, 2, 3):
                        for places in combinations(range(most + 2), length):
                            self.check_heights(frame, places, (2, -3, 5)[:length])

    def test_one_curve_alone(self):
        self.assertEqual(self.check_met(RAMP, (1, 5), (3, 1)).amounts, ((6, 1), (2, 1)))
        self.assertEqual(self.check_met(RAMP, (1, 3), (-GREAT, GREAT)).amounts, ((-2 * GREAT, 1), (4 * GREAT, 1)))
        self.assertEqual(self.check_met(BOW, (0, 2, 4), (0, 1, 0)).amounts, ((0, 1), (2, 1), (0, 1)))
        self.assertEqual(self.check_met(Frame(0, (0, 2, 4)), (1, 4), (7, -7)).amounts, ((7, 1), (-7, 1)))

    def test_places_at_which_no_hill_stands(self):
        self.check_met(RAMP, (6, 7), (0, 0))
        self.check_barred(RAMP, (6, 7), (0, 1))
        self.check_barred(RAMP, (6, 7), (-GREAT, 0))
        self.check_barred(RAMP, (0,), (1,))

    def test_wrong_arguments(self):
        right = {"frame": RAMP, "places": (1, 5), "heights": (3, 1)}
        wrong = {"frame": NO_FRAME_ROWS, "places": PLACES, "heights": height_rows(2)}
        check_wrong(self, curve_through, right, wrong)
        check_wrong(self, bar, right, wrong)
        # Heights that no curve goes through are asked alike.
        check_wrong(self, bar, {**right, "places": (1, 2)}, {"heights": height_rows(2)})

    def test_twelve_heights(self):
        right = {"frame": RAMP, "places": tuple(range(12)), "heights": (0, *[GREAT, -GREAT] * 5, 0)}
        check_wrong(self, curve_through, right, {"heights": height_rows(12)})


class NothingTest(unittest.TestCase):
    def check_nothing(self, frame, places):
        found = check_ways(self, nothing_at, {"frame": frame, "places": places})
        self.assertEqual((found.__class__, len(found)), (tuple, frame.hills - table_rank(frame, places)))
        for curve in found:
            self.assertEqual((curve.__class__, curve.frame), (Curve, frame))
            self.assertEqual([curve_value(curve, place) for place in places], [0] * len(places))
        rows = [[Fraction(*amount) for amount in curve.amounts] for curve in found]
        self.assertEqual(rows_rank(rows), len(found))

    def test_so_many_of_that_rank(self):
        for frame in (*FRAMES, *WIDE):
            for places in some_rows(frame):
                with self.subTest(frame=frame.text, places=places):
                    self.check_nothing(frame, places)

    def test_small_frames(self):
        for degree, many, most in ((0, 3, 3), (1, 3, 3), (2, 2, 3), (4, 1, 2)):
            for frame in small_frames(degree, many, most):
                with self.subTest(frame=frame.text):
                    for length in (1, 2):
                        for places in combinations(range(most + 2), length):
                            self.check_nothing(frame, places)

    def test_where_no_hill_stands(self):
        self.assertEqual(len(nothing_at(BOW, (5, 6))), 3)
        self.assertEqual(nothing_at(BOW, (0, 1, 4, 7)), ())

    def test_wrong_arguments(self):
        check_wrong(self, nothing_at, {"frame": RAMP, "places": (1, 5)}, {"frame": NO_FRAME_ROWS, "places": PLACES})


class LiftedTest(unittest.TestCase):
    def test_one_there_and_nothing_elsewhere(self):
        for frame in (*FRAMES, *WIDE):
            for places in just_one_rows(frame):
                for index in range(len(places)):
                    with self.subTest(frame=frame.text, places=places, index=index):
                        curve = check_ways(self, lifted, {"frame": frame, "places": places, "index": index})
                        self.assertEqual((curve.__class__, curve.frame), (Curve, frame))
                        self.assertEqual([curve_value(curve, place) for place in places],
                                         [int(other == index) for other in range(len(places))])

    def test_rows_for_the_test_above_are_there(self):
        self.assertGreater(sum(len(just_one_rows(frame)) for frame in (*FRAMES, *WIDE)), 40)
        self.assertGreaterEqual(max(len(row) for frame in FRAMES for row in just_one_rows(frame)), 10)

    def test_amounts_by_turns(self):
        for frame in (*FRAMES, *WIDE):
            for places in just_one_rows(frame):
                for index in range(len(places)):
                    tops = [top for top, _ in lifted(frame, places, index).amounts]
                    turned = [top if hill % 2 == index % 2 else -top for hill, top in enumerate(tops)]
                    self.assertGreaterEqual(min(turned), 0)

    def test_not_one(self):
        for frame, places in ((RAMP, (1, 2)), (RAMP, (1,)), (RAMP, (1, 3, 5)), (RAMP, (6, 7)), (BOW, (1, 2)),
                              (BOW, (9,)), (BOW, (0, 1, 2, 3)), (RAMP, tuple(range(12))),
                              (Frame(1, (0, 1, 1, 2)), (0, 1))):
            for index in range(len(places)):
                with self.subTest(frame=frame.text, places=places, index=index):
                    check_error(self, lifted, {"frame": frame, "places": places, "index": index}, NotOne, "rank",
                                rank(frame, places))

    def test_wrong_arguments(self):
        wrong = {"frame": NO_FRAME_ROWS, "places": PLACES, "index": index_rows(2)}
        check_wrong(self, lifted, {"frame": RAMP, "places": (1, 5), "index": 1}, wrong)
        check_last(self, lifted, {"frame": RAMP, "places": (1, 2), "index": 1}, (NotOne, "rank", 1), wrong)
        check_last(self, lifted, {"frame": BOW, "places": (0, 5), "index": 0}, (NotOne, "rank", 1), wrong)

    def test_calls_change_nothing(self):
        frame = Frame(2, (0, 0, 0, 4, 4, 4))
        for _ in range(2):
            self.assertEqual(lifted(frame, (0, 2, 4), 0).amounts, ((1, 1), (-1, 2), (0, 1)))
            self.assertIsNotNone(bar(frame, (0, 1, 2, 4), (0, 0, 0, 1)))
            self.assertEqual([pair(curve_value(curve, 0)) for curve in nothing_at(frame, (0, 1))], [(0, 1)])
        self.assertEqual(frame, BOW)


if __name__ == "__main__":
    unittest.main()
