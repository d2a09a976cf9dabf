"""The section `bentthrough/telling.py` of the document."""

import unittest
from itertools import combinations

from at_hand import BOW, FRAMES, RAMP, WIDE, small_frames
from bentthrough import telling
from bentthrough.frames import Frame
from bentthrough.matches import rank
from bentthrough.meeting import curve_through
from bentthrough.telling import fewest_more, sure_value, told_at
from examples import check_examples
from reckoned import curve_value, is_met, pair, table_rank
from wrongs import FRAMES as NO_FRAME_ROWS
from wrongs import PLACE, PLACES, check_ways, check_wrong
from wrongs import heights as height_rows

EXAMPLES = """
>>> from bentthrough.telling import fewest_more, sure_value, told_at
>>> [told_at(ramp, (1,)), sure_value(ramp, (1,), (3,), 2), sure_value(ramp, (1,), (3,), 3), sure_value(ramp, (1,), (3,), 9), sure_value(ramp, (1, 2), (1, 1), 1)]
[((0, 2), (6, 1000000)), (6, 1), None, (0, 1), None]
>>> [told_at(bow, (1, 2, 3)), fewest_more(ramp, (1,)), fewest_more(bow, (1, 2)), fewest_more(ramp, (1, 5))]
[((0, 1000000),), (3,), (0,), ()]
"""
LAST = 10 ** 6
SMALL = ((0, 2, 3), (0, 3, 4), (1, 1, 3), (1, 2, 3), (1, 3, 3), (2, 1, 3), (2, 2, 3), (3, 1, 2), (4, 1, 2))


def is_told(frame, places, place):
    """Whether the place adds nothing to the rank of the table of values."""
    return table_rank(frame, sorted({*places, place})) == table_rank(frame, places)


class ExamplesTest(unittest.TestCase):
    def test_examples_of_the_document(self):
        check_examples(self, EXAMPLES, {"ramp": RAMP, "bow": BOW})

    def test_all_is_defined_in_its_file(self):
        for name in ("told_at", "sure_value", "fewest_more"):
            self.assertEqual(getattr(telling, name).__module__, "bentthrough.telling")


class ToldTest(unittest.TestCase):
    def check_told(self, frame, places, most):
        """All integers from 0 to `most`, behind the last knot, are asked one by one."""
        found = check_ways(self, told_at, {"frame": frame, "places": places})
        self.assertEqual({part.__class__ for part in (found, *found)}, {tuple})
        within = {place for first, last in found for place in range(first, min(last, most) + 1)}
        self.assertEqual(within, {place for place in range(most + 1) if is_told(frame, places, place)})
        # The last stretch is without end, and no two stretches touch.
        self.assertEqual(found[-1][1], LAST)
        self.assertTrue(all(first <= last for first, last in found))
        self.assertTrue(all(one[1] + 1 < other[0] for one, other in zip(found, found[1:])))

    def test_by_the_rank(self):
        for frame in FRAMES:
            for places in ((0,), (3,), (1, 2), (0, 4), (2, 3, 5, 6), (1, 4, 5, 6, 7, 8), tuple(range(10))):
                with self.subTest(frame=frame.text, places=places):
                    self.check_told(frame, places, frame.knots[-1] + 2)

    def test_small_frames(self):
        for degree, many, most in SMALL:
            for frame in small_frames(degree, many, most):
                with self.subTest(frame=frame.text):
                    for length in (1, 2):
                        for places in combinations(range(most + 2), length):
                            self.check_told(frame, places, most + 2)

    def test_wide_frames(self):
        for degree, knots, places, told in (
            (1, (0, 5, 999998, LAST), (3,), ((0, 5), (LAST, LAST))),
            (1, (0, 5, 999998, LAST), (6,), ((0, 0), (6, 6), (LAST, LAST))),
            (1, (0, 5, 999998, LAST), (6, 7), ((0, LAST),)),
            (1, (0, 5, 999998, LAST), (999999,), ((0, 0), (999998, LAST))),
            (0, (999999, LAST), (0,), ((0, 999998),)), (0, (999999, LAST), (LAST,), ((0, LAST),)),
            (0, (0, LAST), (4,), ((0, LAST),)), (0, (0, 7, LAST), (4,), ((0, 6),)),
            (0, (0, 7, LAST), (7,), ((7, LAST),)),
            (2, (0, 0, 0, LAST, LAST, LAST), (0, 5), ((0, 0), (5, 5))),
            (2, (0, 0, 0, LAST, LAST, LAST), (5, LAST), ((5, 5), (LAST, LAST))),
            (2, (7, 8, 9, LAST), (999999,), ((0, LAST),)), (2, (7, 8, 9, LAST), (LAST,), ((0, 7), (LAST, LAST))),
            (1, (0, 1, 2, 3), (999998,), ((0, 0), (3, LAST))),
        ):
            with self.subTest(knots=knots, places=places):
                self.assertEqual(check_ways(self, told_at, {"frame": Frame(degree, knots), "places": places}), told)

    def test_twelve_places(self):
        for frame in FRAMES:
            with self.subTest(frame=frame.text):
                self.check_told(frame, tuple(range(0, 24, 2)), frame.knots[-1] + 1)
        self.assertEqual(told_at(FRAMES[3], tuple(range(100, 112))), ((0, 0), (12, LAST)))


class SureValueTest(unittest.TestCase):
    def check_sure(self, frame, places, heights, place):
        arguments = {"frame": frame, "places": places, "heights": heights, "place": place}
        found = check_ways(self, sure_value, arguments)
        if is_met(frame, places, heights) and is_told(frame, places, place):
            self.assertEqual(found, pair(curve_value(curve_through(frame, places, heights), place)))
            return 1
        self.assertIsNone(found)
        return 0

    def test_small_frames(self):
        sure = 0
        for degree, many, most in SMALL:
            for frame in small_frames(degree, many, most):
                with self.subTest(frame=frame.text):
                    for places in ((0,), (1,), (0, 2), (1, 2), (0, 1, 3)):
                        for heights in ((4, 2, -6)[:len(places)], (0, 0, 0)[:len(places)]):
                            for place in range(most + 2):
                                sure += self.check_sure(frame, places, heights, place)
        self.assertGreater(sure, 1000)

    def test_by_hand(self):
        for frame, places, heights, place, told in (
            (RAMP, (1,), (3,), 0, (0, 1)), (RAMP, (1,), (3,), 1, (3, 1)), (RAMP, (1,), (3,), 4, None),
            (RAMP, (1, 5), (3, 1), 3, (4, 1)), (RAMP, (1, 5), (3, 1), LAST, (0, 1)), (RAMP, (1, 2), (1, 2), 0, (0, 1)),
            (RAMP, (1, 2), (1, 2), 3, None), (RAMP, (1, 2), (1, 1), 9, None), (RAMP, (7,), (0,), 8, (0, 1)),
            (RAMP, (7,), (1,), 8, None), (RAMP, (7,), (1,), 7, None), (BOW, (1, 2, 3), (1, 1, 1), 0, (1, 1)),
            (BOW, (0, 2, 4), (0, 1, 0), 1, (3, 4)), (BOW, (0, 2, 4), (10 ** 20, 1, -10 ** 20), 4, (-10 ** 20, 1)),
        ):
            with self.subTest(frame=frame.text, places=places, heights=heights, place=place):
                self.assertEqual(sure_value(frame, places, heights, place), told)
                self.check_sure(frame, places, heights, place)


class FewestMoreTest(unittest.TestCase):
    def least(self, frame, places, most):
        """The least tuple of further places up to `most`, behind the last knot, of all that are tried."""
        full = table_rank(frame, range(most + 1))
        for many in range(frame.hills + 1):
            for more in combinations([place for place in range(most + 1) if place not in places], many):
                if table_rank(frame, sorted(places + more)) == full:
                    return more

    def check_fewest(self, frame, places, most):
        found = check_ways(self, fewest_more, {"frame": frame, "places": places})
        self.assertEqual(found, self.least(frame, places, most))
        self.assertEqual(told_at(frame, tuple(sorted(places + found))), ((0, LAST),))

    def test_small_frames(self):
        for degree, many, most in SMALL:
            for frame in small_frames(degree, many, most):
                with self.subTest(frame=frame.text):
                    for places in ((0,), (2,), (most + 1,), (0, 1), (1, 3), (LAST,), (2, 999999)):
                        self.check_fewest(frame, places, most + 1)

    def test_by_hand(self):
        for degree, knots, places, told in (
            (1, (0, 2, 4, 6), (6,), (1, 3)), (1, (0, 2, 4, 6), (1,), (3,)), (1, (0, 2, 4, 6), (5,), (1,)),
            (1, (0, 2, 4, 6), (3,), (1,)), (1, (0, 2, 4, 6), (1, 2), (3,)), (1, (0, 2, 4, 6), (2, 4), ()),
            (0, (0, 2, 4, 6), (2,), (0, 4)), (0, (3, LAST), (0,), (3,)), (0, (3, LAST), (LAST,), ()),
            (1, (0, 500000, LAST), (LAST,), (1,)), (2, (999998, 999999, LAST, LAST, LAST), (5,), (999999, LAST)),
            (4, (0,) * 5 + (LAST,) * 5, (999999,), (0, 1, 2, 3)), (4, (0,) * 5 + (LAST,) * 5, (LAST,), (0, 1, 2, 3)),
            # hills that stand at no integer
            (1, (0, 1, 1, 2), (5,), (1,)), (1, (0, 0, 1, 1, 2, 2), (5,), (0, 1, 2)), (2, (0, 1, 1, 2), (5,), (1,)),
            (2, (0, 0, 1, 1), (5,), ()), (1, (0, 1, 1), (5,), (1,)), (3, (0, 0, 0, 1, 1), (7,), ()),
        ):
            with self.subTest(knots=knots, places=places):
                self.assertEqual(check_ways(self, fewest_more, {"frame": Frame(degree, knots), "places": places}), told)

    def test_more_than_twelve_together(self):
        stairs = Frame(0, tuple(range(0, 22, 2)))
        self.assertEqual(fewest_more(stairs, (100, 101)), tuple(range(0, 20, 2)))
        self.assertIsNone(fewest_more(stairs, (100, 101, 102)))
        self.assertEqual(fewest_more(stairs, (3, 100, 101)), (0, 4, 6, 8, 10, 12, 14, 16, 18))
        self.assertIsNone(fewest_more(stairs, (3, 100, 101, 102)))
        self.assertEqual(fewest_more(stairs, (*range(0, 20, 2), 100, 101)), ())
        self.assertIsNone(fewest_more(RAMP, tuple(range(100, 112))))
        self.assertIsNone(fewest_more(RAMP, tuple(range(100, 111))))
        self.assertEqual(fewest_more(RAMP, tuple(range(100, 110))), (1, 3))
        self.assertEqual(fewest_more(RAMP, tuple(range(12))), ())
        self.assertEqual(fewest_more(RAMP, (1, *range(100, 110))), (3,))
        self.assertIsNone(fewest_more(RAMP, (1, *range(100, 111))))

    def test_as_many_as_are_missing(self):
        for frame in (*FRAMES, *WIDE):
            for places in ((5,), (0, LAST)):
                with self.subTest(frame=frame.text, places=places):
                    more = fewest_more(frame, places)
                    together = tuple(sorted(places + more))
                    self.assertEqual(len(together), len(places) + len(more))
                    self.assertEqual(len(more), rank(frame, together) - rank(frame, places))
                    self.assertEqual(told_at(frame, together), ((0, LAST),))


class ArgumentsTest(unittest.TestCase):
    def test_wrong_arguments(self):
        right, wrong = {"frame": RAMP, "places": (1, 5)}, {"frame": NO_FRAME_ROWS, "places": PLACES}
        check_wrong(self, told_at, right, wrong)
        check_wrong(self, fewest_more, right, wrong)

    def test_wrong_arguments_of_sure_value(self):
        wrong = {"frame": NO_FRAME_ROWS, "places": PLACES, "heights": height_rows(2), "place": PLACE}
        check_wrong(self, sure_value, {"frame": RAMP, "places": (1, 5), "heights": (3, 1), "place": 2}, wrong)
        # Places that are not told and heights that are not met do not hide what is wrong.
        check_wrong(self, sure_value, {"frame": RAMP, "places": (1, 2), "heights": (1, 1), "place": 4},
                    {"heights": height_rows(2), "place": PLACE})

    def test_calls_change_nothing(self):
        frame, places = Frame(1, (0, 2, 4, 6)), (1,)
        for _ in range(2):
            self.assertEqual((told_at(frame, places), sure_value(frame, places, (3,), 2), fewest_more(frame, places)),
                             (((0, 2), (6, LAST)), (6, 1), (3,)))
        self.assertEqual((frame, places), (RAMP, (1,)))


if __name__ == "__main__":
    unittest.main()
