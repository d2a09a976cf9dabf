"""The section `bentthrough/matches.py` of the document, and [10]."""

import unittest
from itertools import combinations

from at_hand import BOW, FRAMES, RAMP, WIDE, places_near, small_frames
from bentthrough import matches
from bentthrough.frames import Frame
from bentthrough.matches import all_met, just_one, matching, one_at_most, rank
from examples import check_examples
from reckoned import least_longest_matching, table_rank
from wrongs import FRAMES as NO_FRAME_ROWS
from wrongs import PLACES, check_ways, check_wrong

EXAMPLES = """
>>> from bentthrough.matches import all_met, just_one, matching, one_at_most, rank
>>> [just_one(ramp, (1, 5)), just_one(ramp, (1, 2)), rank(ramp, (1, 2)), matching(ramp, (1, 2)), matching(bow, (0, 1, 4)), one_at_most(ramp, (1, 2, 5)), all_met(ramp, (1, 2, 5)), rank(ramp, (6, 7))]
[True, False, 1, ((0, 0),), ((0, 0), (1, 1), (2, 2)), True, False, 0]
"""
FUNCTIONS = (rank, matching, all_met, one_at_most, just_one)


def rows_of_places(frame):
    """Ascending rows of places near the knots of the frame, of one to twelve places."""
    near = places_near(frame)
    rows = [tuple(near[start:start + many * step:step]) for many in (1, 2, 3, 4, 6, 9, 12) for start in (0, 1, 2, 5)
            for step in (1, 2, 3)]
    return [row for row in rows if row]


class ExamplesTest(unittest.TestCase):
    def test_examples_of_the_document(self):
        check_examples(self, EXAMPLES, {"ramp": RAMP, "bow": BOW})

    def test_all_is_defined_in_its_file(self):
        for function in FUNCTIONS:
            self.assertEqual(function.__module__, "bentthrough.matches")
            self.assertIs(getattr(matches, function.__name__), function)


class RankTest(unittest.TestCase):
    def check_rank(self, frame, places):
        arguments = {"frame": frame, "places": places}
        worked = table_rank(frame, places)
        self.assertEqual(check_ways(self, rank, arguments), worked)
        self.assertIs(check_ways(self, all_met, arguments), worked == len(places))
        self.assertIs(check_ways(self, one_at_most, arguments), worked == frame.hills)
        self.assertIs(check_ways(self, just_one, arguments), worked == len(places) == frame.hills)

    def test_against_the_table_of_values(self):
        for frame in (*FRAMES, *WIDE):
            for places in rows_of_places(frame):
                with self.subTest(frame=frame.text, places=places):
                    self.check_rank(frame, places)

    def test_small_frames(self):
        for degree, many, most in ((0, 2, 3), (1, 2, 3), (2, 2, 3), (3, 1, 2)):
            for frame in small_frames(degree, many, most):
                with self.subTest(frame=frame.text):
                    for length in (1, 2, 3):
                        for places in combinations(range(most + 2), length):
                            self.check_rank(frame, places)

    def test_just_one_exactly_if_each_hill_stands_at_its_place(self):
        frame = Frame(3, (0, 0, 0, 0, 3, 5, 8, 8, 8, 8))
        for places, told in (((0, 1, 3, 5, 7, 8), True), ((0, 1, 2, 3, 4, 5), False), ((3, 4, 5, 6, 7, 8), False),
                             ((0, 2, 3, 4, 6, 8), True), ((1, 2, 3, 4, 5, 7), True), ((0, 3, 4, 5, 7, 8), True),
                             ((1, 2, 3, 4, 5, 9), False), ((2, 5, 6, 7, 8, 9), False)):
            with self.subTest(places=places):
                self.assertIs(just_one(frame, places), told)
                self.assertIs(all_met(frame, places), told)
                self.assertIs(one_at_most(frame, places), told)

    def test_twelve_places(self):
        for frame in FRAMES:
            for places in (tuple(range(12)), tuple(range(0, 24, 2)), (*range(11), 10 ** 6)):
                with self.subTest(frame=frame.text, places=places):
                    self.check_rank(frame, places)
        self.assertEqual(rank(FRAMES[3], tuple(range(12))), 10)
        self.assertEqual(matching(FRAMES[3], tuple(range(12))), tuple((hill, hill + 1) for hill in range(10)))


class MatchingTest(unittest.TestCase):
    def check_matching(self, frame, places):
        found = check_ways(self, matching, {"frame": frame, "places": places})
        self.assertEqual(found, least_longest_matching(frame, places))
        self.assertEqual({part.__class__ for part in (found, *found)}, {tuple})

    def test_by_hand(self):
        step = Frame(0, (0, 2, 4, 6))
        for frame, places, told in (
            (RAMP, (6, 7), ()), (RAMP, (5,), ((1, 0),)), (RAMP, (3,), ((0, 0),)), (RAMP, (0, 3), ((0, 1),)),
            (RAMP, (3, 5), ((0, 0), (1, 1))), (RAMP, (1, 2, 5), ((0, 0), (1, 2))), (RAMP, (4, 5), ((1, 0),)),
            (step, (0, 1, 2, 3, 4), ((0, 0), (1, 2), (2, 4))), (step, (4, 5, 6), ((2, 0),)),
            (step, (0, 6), ((0, 0), (2, 1))), (BOW, (1, 2), ((0, 0), (1, 1))), (BOW, (1, 4), ((0, 0), (2, 1))),
            (BOW, (4,), ((2, 0),)), (BOW, (0, 4), ((0, 0), (2, 1))),
        ):
            with self.subTest(frame=frame.text, places=places):
                self.assertEqual(matching(frame, places), told)

    def test_the_least_of_all_that_are_tried(self):
        for degree, many, most in ((0, 2, 3), (0, 3, 4), (1, 2, 3), (1, 3, 3), (2, 2, 3), (3, 1, 2)):
            for frame in small_frames(degree, many, most):
                with self.subTest(frame=frame.text):
                    for length in (1, 2, 3):
                        for places in combinations(range(most + 1), length):
                            self.check_matching(frame, places)

    def test_longer_ones(self):
        for frame in FRAMES:
            if frame.hills <= 5:
                for places in ((0, 1, 2, 3, 4), (0, 2, 4, 6, 8), (1, 4, 5, 7), (3, 5, 6, 7, 9)):
                    with self.subTest(frame=frame.text, places=places):
                        self.check_matching(frame, places)

    def test_as_long_as_the_rank(self):
        for frame in (*FRAMES, *WIDE):
            for places in rows_of_places(frame):
                self.assertEqual(len(matching(frame, places)), rank(frame, places))


class ArgumentsTest(unittest.TestCase):
    def test_wrong_arguments(self):
        for function in FUNCTIONS:
            with self.subTest(function=function.__name__):
                check_wrong(self, function, {"frame": RAMP, "places": (1, 5)},
                            {"frame": NO_FRAME_ROWS, "places": PLACES})

    def test_bounds_of_places(self):
        for places in ((0,), (1000000,), (0, 1000000), (999999, 1000000), tuple(range(12)),
                       tuple(range(999989, 1000001))):
            for function in FUNCTIONS:
                function(RAMP, places)

    def test_calls_change_nothing(self):
        frame = Frame(1, (0, 2, 4, 6))
        for _ in range(2):
            self.assertEqual([function(frame, (1, 2)) for function in FUNCTIONS], [1, ((0, 0),), False, False, False])
        self.assertEqual(frame, RAMP)


if __name__ == "__main__":
    unittest.main()
