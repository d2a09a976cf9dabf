"""The section `bentthrough/hills.py` of the document, and [7] and [8]."""

import unittest
from fractions import Fraction

from at_hand import BOW, FRAMES, RAMP, WIDE, places_near, small_frames
from bentthrough import hills
from bentthrough.frames import Frame
from bentthrough.hills import standing, stands, value, values_at_fraction
from examples import check_examples
from reckoned import hill_value, pair
from wrongs import FRAMES as NO_FRAME_ROWS
from wrongs import PLACE, check_ways, check_wrong
from wrongs import hills as hill_rows

EXAMPLES = """
>>> from bentthrough.hills import standing, stands, value
>>> [value(ramp, 0, 1), value(ramp, 0, 2), value(ramp, 1, 3), value(bow, 0, 1), value(bow, 1, 1), value(bow, 2, 4), value(bow, 2, 5)]
[(1, 2), (1, 1), (1, 2), (9, 16), (3, 8), (1, 1), (0, 1)]
>>> [stands(ramp, 1, 2), standing(ramp, 3), standing(bow, 0), standing(bow, 4), standing(ramp, 6)]
[False, (0, 1), (0,), (2,), ()]
"""

# Each row: degree, knots, place, the values of all hills; worked out by hand.
BY_HAND = (
    (0, (2, 5), 1, ((0, 1),)), (0, (2, 5), 2, ((1, 1),)), (0, (2, 5), 4, ((1, 1),)), (0, (2, 5), 5, ((1, 1),)),
    (0, (2, 5), 6, ((0, 1),)), (0, (2, 5, 7), 5, ((0, 1), (1, 1))), (0, (2, 5, 7), 7, ((0, 1), (1, 1))),
    (1, (0, 2, 4, 6), 6, ((0, 1), (0, 1))), (1, (0, 3, 3), 3, ((1, 1),)), (1, (0, 3, 3), 1, ((1, 3),)),
    (1, (0, 0, 3), 0, ((1, 1),)), (1, (0, 0, 3), 3, ((0, 1),)), (1, (0, 3, 3, 6), 3, ((0, 1), (1, 1))),
    (1, (0, 3, 3, 6), 2, ((2, 3), (0, 1))), (1, (0, 3, 3, 6, 6), 6, ((0, 1), (0, 1), (1, 1))),
    (2, (0, 1, 2, 3), 1, ((1, 2),)), (2, (0, 2, 4, 6), 3, ((3, 4),)), (2, (0, 0, 2, 2), 1, ((1, 2),)),
    (2, (0, 0, 0, 2), 1, ((1, 4),)), (2, (0, 2, 2, 2), 2, ((1, 1),)), (2, (0, 2, 2, 2, 4), 2, ((0, 1), (1, 1))),
    (3, (0, 1, 2, 3, 4), 2, ((2, 3),)), (3, (0, 1, 2, 3, 4), 1, ((1, 6),)), (4, (0, 1, 2, 3, 4, 5), 2, ((11, 24),)),
    (4, (0, 0, 0, 0, 0, 2), 1, ((1, 16),)), (4, (0,) * 5 + (2,) * 5, 1, ((1, 16), (1, 4), (3, 8), (1, 4), (1, 16))),
)


class ExamplesTest(unittest.TestCase):
    def test_examples_of_the_document(self):
        check_examples(self, EXAMPLES, {"ramp": RAMP, "bow": BOW})

    def test_all_is_defined_in_its_file(self):
        for name in ("value", "stands", "standing"):
            self.assertEqual(getattr(hills, name).__module__, "bentthrough.hills")


class ValueTest(unittest.TestCase):
    def check_values(self, frame, place):
        worked = [hill_value(frame, hill, place) for hill in range(frame.hills)]
        self.assertEqual([value(frame, hill, place) for hill in range(frame.hills)], [pair(part) for part in worked])
        found = [stands(frame, hill, place) for hill in range(frame.hills)]
        self.assertEqual(found, [part > 0 for part in worked])
        self.assertEqual({part.__class__ for part in found}, {bool})
        self.assertEqual(standing(frame, place), tuple(hill for hill, part in enumerate(worked) if part > 0))

    def test_values_by_hand(self):
        for degree, knots, place, told in BY_HAND:
            with self.subTest(knots=knots, place=place):
                frame = Frame(degree, knots)
                found = tuple(value(frame, hill, place) for hill in range(frame.hills))
                self.assertEqual(found, told)
                self.assertEqual({part.__class__ for parts in found for part in (parts, *parts)}, {tuple, int})

    def test_values_by_the_rule(self):
        for frame in (*FRAMES, *WIDE):
            for place in places_near(frame):
                with self.subTest(frame=frame.text, place=place):
                    self.check_values(frame, place)

    def test_small_frames(self):
        for degree, many, most in ((0, 2, 4), (0, 3, 4), (1, 1, 4), (1, 2, 4), (2, 1, 3), (2, 2, 3), (3, 1, 3),
                                   (4, 1, 2)):
            for frame in small_frames(degree, many, most):
                with self.subTest(frame=frame.text):
                    for place in range(most + 2):
                        self.check_values(frame, place)

    def test_values_at_fractions(self):
        for frame in (*FRAMES, *WIDE):
            for place in places_near(frame):
                for more in (Fraction(0), Fraction(1, 3), Fraction(-2, 7), Fraction(1, 10 ** 30)):
                    x = place + more
                    with self.subTest(frame=frame.text, x=x):
                        found = values_at_fraction(frame, pair(x))
                        self.assertEqual(found, [pair(hill_value(frame, hill, x)) for hill in range(frame.hills)])

    def test_one_together_between_the_inner_end_knots(self):
        for frame in (*FRAMES, *WIDE):
            first, last = frame.knots[frame.degree], frame.knots[frame.hills]
            for place in places_near(frame):
                if first <= place < last or first < place == last == frame.knots[-1]:
                    with self.subTest(frame=frame.text, place=place):
                        total = sum(Fraction(*value(frame, hill, place)) for hill in range(frame.hills))
                        self.assertEqual(total, 1)

    def test_nothing_outside_of_the_knots(self):
        frame = Frame(3, (5, 5, 5, 5, 8, 9, 9, 9, 9))
        for place in (0, 1, 4, 10, 11, 1000000):
            self.assertEqual([value(frame, hill, place) for hill in range(5)], [(0, 1)] * 5)
            self.assertEqual(standing(frame, place), ())
        self.assertEqual((standing(frame, 5), standing(frame, 9)), ((0,), (4,)))

    def test_calls_change_nothing(self):
        frame = Frame(2, (0, 1, 2, 3))
        self.assertEqual([value(frame, 0, 1), value(frame, 0, 1), standing(frame, 1), standing(frame, 1)],
                         [(1, 2), (1, 2), (0,), (0,)])
        self.assertEqual(frame.text, "degree 2 knots 0 1 2 3")


class ArgumentsTest(unittest.TestCase):
    def test_by_position_and_by_name(self):
        self.assertEqual(check_ways(self, value, {"frame": RAMP, "hill": 1, "place": 3}), (1, 2))
        self.assertIs(check_ways(self, stands, {"frame": RAMP, "hill": 1, "place": 3}), True)
        self.assertEqual(check_ways(self, standing, {"frame": RAMP, "place": 3}), (0, 1))

    def test_wrong_arguments(self):
        right = {"frame": BOW, "hill": 2, "place": 4}
        wrong = {"frame": NO_FRAME_ROWS, "hill": hill_rows(3), "place": PLACE}
        check_wrong(self, value, right, wrong)
        check_wrong(self, stands, right, wrong)
        check_wrong(self, standing, {"frame": BOW, "place": 4}, {"frame": NO_FRAME_ROWS, "place": PLACE})

    def test_bounds_of_hills_and_places(self):
        frame = Frame(0, tuple(range(11)))
        self.assertEqual(value(frame, 9, 10), (1, 1))
        self.assertEqual(value(frame, 0, 1000000), (0, 1))
        check_wrong(self, value, {"frame": frame, "hill": 9, "place": 10}, {"hill": hill_rows(10)})


if __name__ == "__main__":
    unittest.main()
