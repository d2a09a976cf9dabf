"""The section `bentthrough/certificates.py` of the document, and [13]."""

import unittest
from itertools import combinations

from anything import NO_INTEGERS
from at_hand import BOW, FRAMES, RAMP, WIDE, curve_of, places_near, small_frames
from bentthrough import certificates
from bentthrough.certificates import certify_below, certify_rank, certify_through, certify_turns
from bentthrough.checker import accepts
from bentthrough.curves import Curve
from bentthrough.errors import InvalidNumber
from bentthrough.frames import Frame
from bentthrough.meeting import curve_through
from bentthrough.signs import turns
from examples import check_examples
from papers import should_accept
from reckoned import is_met, table_rank
from wrongs import CURVES, FRAMES as NO_FRAME_ROWS
from wrongs import PLACES, check_ways, check_wrong, given
from wrongs import heights as height_rows

EXAMPLES = """
>>> from bentthrough.certificates import certify_below, certify_rank, certify_through, certify_turns
>>> from bentthrough.checker import accepts
>>> claim, paper = certify_through(ramp, (1, 5), (3, 1))
>>> [claim, paper, accepts(claim, paper), certify_through(ramp, (1, 2), (1, 1))[0][0], certify_rank(ramp, (1, 2), 2), certify_turns(swing)[0][3]]
[('through', 'degree 1 knots 0 2 4 6', (1, 5), (3, 1)), ((6, 1), (2, 1)), True, 'never', None, 3]
>>> [accepts(("never", "degree 1 knots 0 2 4 6", (1, 2), (1, 1)), (2, -1)), accepts(("below", "degree 1 knots 0 2 4 6", (1, 2), 1), ((2, -1),)), accepts(("rank", "degree 1 knots 0 2 4 6", (1, 5), 2), ((0, 0), (1, 1))), certify_below(ramp, (1, 2), 0)]
[True, True, True, None]
"""
GREAT = 10 ** 20
SWING = Curve(BOW, ((1, 1), (-2, 1), (1, 1)))
NUMBERS = given(InvalidNumber, (*NO_INTEGERS, -1, 13, GREAT, 10 ** 59, -10 ** 59))


def some_rows(frame):
    """Some ascending rows of places near the knots of the frame, of one to twelve places."""
    near = places_near(frame)
    rows = [tuple(near[start:start + many * step:step]) for many in (1, 3, 6, 12) for start, step in ((0, 1), (2, 2))]
    return sorted({row for row in rows if row} | {(7, 10 ** 6)})


def some_heights(many):
    """Heights of some kinds for so many places."""
    yield tuple((7 * index * index - 5) % 11 - 5 for index in range(many))
    yield tuple(GREAT if index % 2 else -GREAT for index in range(many))
    yield (0,) * many
    yield (1,) + (0,) * (many - 1)


class ExamplesTest(unittest.TestCase):
    def test_examples_of_the_document(self):
        check_examples(self, EXAMPLES, {"ramp": RAMP, "swing": SWING})

    def test_all_is_defined_in_its_file(self):
        for name in ("certify_through", "certify_rank", "certify_below", "certify_turns"):
            self.assertEqual(getattr(certificates, name).__module__, "bentthrough.certificates")


class CertificatesTest(unittest.TestCase):
    def check_pair(self, action, arguments, claim):
        """Fails the case unless the action gives this claim, and a paper for it; nothing if the claim is None."""
        found = check_ways(self, action, arguments)
        if claim is None:
            self.assertIsNone(found)
            return
        self.assertEqual((found.__class__, len(found), found[0]), (tuple, 2, claim))
        self.assertEqual([part.__class__ for part in found[0]], [part.__class__ for part in claim])
        self.assertIs(accepts(*found), True)
        self.assertTrue(should_accept(*found))

    def check_through(self, frame, places, heights):
        arguments = {"frame": frame, "places": places, "heights": heights}
        word = "through" if is_met(frame, places, heights) else "never"
        self.assertIs(curve_through(**arguments) is None, word == "never")
        self.check_pair(certify_through, arguments, (word, frame.text, places, heights))

    def check_ranks(self, frame, places, numbers=range(13)):
        free = table_rank(frame, places)
        for number in numbers:
            arguments, claimed = {"frame": frame, "places": places, "number": number}, (frame.text, places, number)
            self.check_pair(certify_rank, arguments, ("rank", *claimed) if free >= number else None)
            self.check_pair(certify_below, arguments, ("below", *claimed) if free <= number else None)

    def test_heights(self):
        for frame in (*FRAMES, *WIDE):
            for places in some_rows(frame):
                for heights in some_heights(len(places)):
                    with self.subTest(frame=frame.text, places=places, heights=heights):
                        self.check_through(frame, places, heights)

    def test_ranks(self):
        for frame in (*FRAMES, *WIDE):
            for places in some_rows(frame):
                with self.subTest(frame=frame.text, places=places):
                    self.check_ranks(frame, places)

    def test_small_frames(self):
        for degree, many, most in ((0, 2, 3), (1, 2, 3), (2, 2, 2), (3, 1, 2), (4, 1, 2)):
            for frame in small_frames(degree, many, most)[::2]:
                for length in (1, 2, 4):
                    for places in combinations(range(most + 2), length):
                        with self.subTest(frame=frame.text, places=places):
                            self.check_through(frame, places, (2, -3, 5, 1)[:length])
                            self.check_ranks(frame, places, range(length + 2))

    def test_turns(self):
        curves = [curve_of(frame, number) for number, frame in enumerate((*FRAMES, *WIDE))]
        curves += [Curve(frame, tuple((-(top ** 2) if top % 3 else 0, 1) for top in range(frame.hills)))
                   for frame in FRAMES]
        curves += [Curve(frame, tuple(((-1) ** hill * (hill + 1) ** 3, 7) if (hill + 1) % 7 else (0, 1)
                                      for hill in range(frame.hills))) for frame in (*FRAMES, *WIDE)]
        seen = set()
        for curve in curves:
            with self.subTest(frame=curve.frame.text, amounts=curve.amounts):
                claim = ("turns", curve.frame.text, curve.amounts, turns(curve))
                self.check_pair(certify_turns, {"curve": curve}, claim)
                seen.add(turns(curve))
        self.assertLessEqual({0, 1, 2, 3, 4, 5}, seen)

    def test_by_hand(self):
        self.assertEqual(certify_rank(RAMP, (1, 5), 0), (("rank", RAMP.text, (1, 5), 0), ()))
        self.assertEqual(certify_rank(RAMP, (1, 2, 5), 1), (("rank", RAMP.text, (1, 2, 5), 1), ((0, 0),)))
        self.assertEqual(certify_below(RAMP, (1, 5), 2), (("below", RAMP.text, (1, 5), 2), ()))
        self.assertEqual(certify_below(RAMP, (1, 2), 12), (("below", RAMP.text, (1, 2), 12), ()))
        self.assertIn(certify_below(RAMP, (1, 2), 1)[1], (((2, -1),), ((-2, 1),)))
        self.assertIn(certify_through(RAMP, (1, 2), (1, 1))[1], ((2, -1), (-2, 1)))
        self.assertEqual(certify_turns(Curve(RAMP, ((0, 1), (0, 1)))), (("turns", RAMP.text, ((0, 1), (0, 1)), 0), ()))
        for number in (0, 1, 2, 3, 12):
            self.assertEqual(certify_rank(RAMP, (7, 8), number) is None, number > 0)
            self.assertEqual(len(certify_below(RAMP, (7, 8), number)[1]), max(2 - number, 0))


class ArgumentsTest(unittest.TestCase):
    def test_wrong_arguments_of_certify_through(self):
        right = {"frame": RAMP, "places": (1, 5), "heights": (3, 1)}
        wrong = {"frame": NO_FRAME_ROWS, "places": PLACES, "heights": height_rows(2)}
        check_wrong(self, certify_through, right, wrong)
        check_wrong(self, certify_through, {**right, "places": (1, 2)}, {"heights": height_rows(2)})

    def test_wrong_arguments_of_ranks(self):
        wrong = {"frame": NO_FRAME_ROWS, "places": PLACES, "number": NUMBERS}
        for number in (0, 2, 12):
            check_wrong(self, certify_rank, {"frame": RAMP, "places": (1, 5), "number": number}, wrong)
            check_wrong(self, certify_below, {"frame": RAMP, "places": (1, 5), "number": number}, wrong)

    def test_wrong_arguments_of_certify_turns(self):
        check_wrong(self, certify_turns, {"curve": SWING}, {"curve": CURVES})

    def test_calls_change_nothing(self):
        frame = Frame(1, (0, 2, 4, 6))
        for _ in range(2):
            self.assertEqual(certify_through(frame, (1, 5), (3, 1))[1], ((6, 1), (2, 1)))
            self.assertEqual(certify_below(frame, (1, 2), 1), certify_below(frame, (1, 2), 1))
            self.assertEqual(certify_turns(SWING), certify_turns(SWING))
        self.assertEqual(frame, RAMP)


if __name__ == "__main__":
    unittest.main()
