"""The section `bentthrough/curves.py` of the document, and [9]."""

import unittest
from fractions import Fraction
from itertools import pairwise

from anything import NO_FRAMES, NO_TUPLES, Stranger
from at_hand import BOW, FRAMES, RAMP, WIDE, curve_of, places_near, small_frames
from bentthrough import curves
from bentthrough.curves import Curve, area, piece, slope
from bentthrough.errors import InvalidAmounts, InvalidNumber
from bentthrough.frames import Frame
from examples import check_examples
from reckoned import curve_value, pair
from wrongs import CURVES, FRAMES as NO_FRAME_ROWS
from wrongs import NO_CURVES, NO_FRACTIONS, PLACE, check_error, check_ways, check_wrong, given, index, rows_of

EXAMPLES = """
>>> from bentthrough.curves import Curve, area, piece, slope
>>> roof, arch = Curve(ramp, ((3, 1), (1, 1))), Curve(bow, ((0, 1), (4, 1), (0, 1)))
>>> [roof.value(1), roof.value(3), roof.value(6), piece(roof, 3), slope(roof, 2), slope(roof, 1), area(roof, 0, 6), area(roof, 3, 3)]
[(3, 2), (2, 1), (0, 1), ((5, 1), (-1, 1)), (-1, 1), (3, 2), (8, 1), (0, 1)]
>>> [arch.value(2), piece(arch, 0), slope(arch, 1), area(arch, 0, 4), piece(arch, 4)]
[(2, 1), ((0, 1), (2, 1), (-1, 2)), (1, 1), (16, 3), ((0, 1), (0, 1), (0, 1))]
"""
ROOF = Curve(RAMP, ((3, 1), (1, 1)))
ARCH = Curve(BOW, ((0, 1), (4, 1), (0, 1)))


def hill_alone(frame, hill):
    """The curve that is this hill."""
    return Curve(frame, tuple((1 if other == hill else 0, 1) for other in range(frame.hills)))


def by_powers(powers, x):
    """The sum of the powers of x times these fractions."""
    return sum(Fraction(*power) * Fraction(x) ** number for number, power in enumerate(powers))


def area_by_powers(curve, first, last):
    """The area between two places, by the powers of each piece between neighbouring knots."""
    total = Fraction(0)
    for low, high in pairwise(sorted({first, last, *[knot for knot in curve.frame.knots if first < knot < last]})):
        for number, power in enumerate(piece(curve, low), start=1):
            total += Fraction(*power) * (Fraction(high) ** number - Fraction(low) ** number) / number
    return total


class ExamplesTest(unittest.TestCase):
    def test_examples_of_the_document(self):
        names = check_examples(self, EXAMPLES, {"ramp": RAMP, "bow": BOW})
        self.assertEqual((names["roof"], names["arch"]), (ROOF, ARCH))

    def test_all_is_defined_in_its_file(self):
        for name in ("Curve", "piece", "slope", "area"):
            self.assertEqual(getattr(curves, name).__module__, "bentthrough.curves")
        for name in ("__init__", "frame", "amounts", "value", "__eq__"):
            self.assertIn(name, vars(Curve))


class CurveTest(unittest.TestCase):
    def test_keeps_what_is_passed(self):
        for frame in FRAMES:
            amounts = curve_of(frame).amounts
            for curve in (Curve(frame, amounts), Curve(frame=frame, amounts=amounts), Curve(frame, amounts=amounts),
                          Curve(amounts=amounts, frame=frame)):
                self.assertIs(curve.frame, frame)
                self.assertIs(curve.amounts, amounts)
                self.assertTrue(curve)

    def test_nothing_at_all_is_true_too(self):
        self.assertTrue(Curve(RAMP, ((0, 1), (0, 1))))

    def test_wrong_arguments(self):
        pairs = [(thing, None) for thing in NO_TUPLES] + rows_of(3, NO_FRACTIONS, (-4, 3))
        right = {"frame": BOW, "amounts": ((1, 2), (0, 1), (-4, 3))}
        check_wrong(self, Curve, right, {"frame": NO_FRAME_ROWS, "amounts": index(InvalidAmounts, pairs)})

    def test_wrong_amounts(self):
        for frame, amounts, told in (
            (RAMP, ((1, 1),), None), (RAMP, ((1, 1), (1, 1), (1, 1)), None), (RAMP, (), None), (RAMP, (1, 1), 0),
            (RAMP, ((2, 2), (2, 2)), 0), (RAMP, ((1, 1), (2, 2)), 1), (RAMP, ((1, 1), (1, 0)), 1),
            (RAMP, ((1, 1), [1, 1]), 1), (RAMP, ([1, 1], (1, 1)), 0), (RAMP, ((0, 2), (1, 1)), 0),
            (RAMP, ((True, 1), (1, 1)), 0), (RAMP, ((1, 1), (1, True)), 1), (RAMP, ((2, 4), (1, 1), (1, 1)), None),
            (Frame(0, (0, 1)), ((1, 1), (1, 1)), None), (Frame(0, (0, 1)), (1, 1), None),
            (Frame(0, (0, 1)), ((1, -1),), 0),
        ):
            with self.subTest(amounts=amounts):
                check_error(self, Curve, {"frame": frame, "amounts": amounts}, InvalidAmounts, "index", told)

    def test_values_are_the_sums(self):
        for number, frame in enumerate((*FRAMES, *WIDE)):
            curve = curve_of(frame, number)
            for place in places_near(frame):
                with self.subTest(frame=frame.text, place=place):
                    self.assertEqual(curve.value(place), pair(curve_value(curve, place)))
                    self.assertEqual(curve.value(place=place), curve.value(place))

    def test_value_of_wrong_places(self):
        check_wrong(self, ARCH.value, {"place": 2}, {"place": PLACE})


class EqualTest(unittest.TestCase):
    def check_equal(self, left, right, equal):
        for one, other in ((left, right), (right, left)):
            self.assertIs(one == other, equal)
            self.assertIs(one != other, not equal)

    def test_equal_exactly_if_frames_and_amounts_are(self):
        self.check_equal(ROOF, ROOF, True)
        self.check_equal(ROOF, Curve(Frame(1, (0, 2, 4, 6)), ((3, 1), (1, 1))), True)
        self.check_equal(ROOF, Curve(RAMP, ((3, 1), (1, 2))), False)
        self.check_equal(ROOF, Curve(RAMP, ((1, 1), (3, 1))), False)
        self.check_equal(ROOF, Curve(Frame(1, (0, 2, 4, 7)), ((3, 1), (1, 1))), False)
        self.check_equal(ROOF, Curve(Frame(0, (0, 2, 4)), ((3, 1), (1, 1))), False)
        # The same values everywhere are not enough.
        self.check_equal(Curve(RAMP, ((0, 1), (0, 1))), Curve(Frame(1, (0, 2, 4, 7)), ((0, 1), (0, 1))), False)

    def test_other_kinds_are_never_equal(self):
        for thing in (*NO_CURVES, *NO_FRAMES, ROOF.amounts, ROOF.frame, "roof"):
            with self.subTest(thing=thing):
                if isinstance(thing, Stranger):
                    self.assertIs(ROOF == thing, False)
                    self.assertIs(ROOF != thing, True)
                else:
                    self.check_equal(ROOF, thing, False)


class PieceTest(unittest.TestCase):
    def check_piece(self, curve, place):
        powers = check_ways(self, piece, {"curve": curve, "place": place})
        self.assertEqual((powers.__class__, len(powers)), (tuple, curve.frame.degree + 1))
        for power in powers:
            self.assertEqual(power, pair(Fraction(*power)))
            self.assertIs(power.__class__, tuple)
        behind = [knot for knot in curve.frame.knots if knot > place]
        if not behind or place < curve.frame.knots[0]:
            self.assertEqual(powers, ((0, 1),) * (curve.frame.degree + 1))
        for part in range(7):
            # At the last knot itself the curve has the value to which it comes from the left.
            x = Fraction(place) + (Fraction(min(behind) - place) * part / 7 if behind else part + 1)
            self.assertEqual(by_powers(powers, x), curve_value(curve, x))
        slopes = [Fraction(*power) * number * Fraction(place) ** (number - 1)
                  for number, power in enumerate(powers) if number]
        self.assertEqual(check_ways(self, slope, {"curve": curve, "place": place}), pair(sum(slopes)))
        return powers

    def test_pieces_and_slopes(self):
        for number, frame in enumerate((*FRAMES, *WIDE)):
            curve = curve_of(frame, number)
            for place in places_near(frame):
                with self.subTest(frame=frame.text, place=place):
                    self.check_piece(curve, place)

    def test_small_frames(self):
        for degree, many, most in ((0, 2, 3), (1, 2, 3), (2, 2, 3), (3, 1, 2), (4, 1, 2)):
            for frame in small_frames(degree, many, most):
                with self.subTest(frame=frame.text):
                    for place in range(most + 1):
                        self.check_piece(curve_of(frame), place)

    def test_the_same_all_along_a_stretch(self):
        frame = Frame(3, (0, 0, 4, 9, 9, 20))
        curve = curve_of(frame)
        for low, high in ((0, 4), (4, 9), (9, 20)):
            self.assertEqual(len({piece(curve, place) for place in range(low, high)}), 1)
        self.assertEqual(len({piece(curve, place) for place in (0, 4, 9, 20)}), 4)

    def test_ahead_of_the_first_knot_and_behind_the_last(self):
        curve = Curve(Frame(1, (5, 5, 8, 8)), ((1, 1), (7, 1)))
        for place in (0, 1, 4, 8, 9, 1000000):
            self.assertEqual((piece(curve, place), slope(curve, place)), (((0, 1), (0, 1)), (0, 1)))
        for place in (5, 6, 7):
            self.assertEqual((piece(curve, place), slope(curve, place)), (((-9, 1), (2, 1)), (2, 1)))
        self.assertEqual(curve.value(8), (7, 1))

    def test_a_step_is_flat(self):
        curve = Curve(Frame(0, (1, 3, 4)), ((2, 1), (-1, 3)))
        self.assertEqual([piece(curve, place) for place in range(6)],
                         [((0, 1),), ((2, 1),), ((2, 1),), ((-1, 3),), ((0, 1),), ((0, 1),)])
        self.assertEqual([slope(curve, place) for place in range(6)], [(0, 1)] * 6)


class AreaTest(unittest.TestCase):
    def test_by_the_powers(self):
        for number, frame in enumerate((*FRAMES, *WIDE)):
            curve, places = curve_of(frame, number), places_near(frame)[::2]
            for first, last in ((0, 10 ** 6), *pairwise(places), *zip(places, places[3:])):
                with self.subTest(frame=frame.text, first=first, last=last):
                    self.assertEqual(check_ways(self, area, {"curve": curve, "first": first, "last": last}),
                                     pair(area_by_powers(curve, first, last)))

    def test_parts_add_up(self):
        for frame in FRAMES:
            curve, places = curve_of(frame, 2), places_near(frame)
            whole = area(curve, places[0], places[-1])
            parts = [Fraction(*area(curve, first, last)) for first, last in pairwise(places)]
            self.assertEqual(pair(sum(parts)), whole)

    def test_from_a_place_to_itself(self):
        for place in (0, 1, 2, 3, 6, 7, 1000000):
            self.assertEqual(area(ROOF, place, place), (0, 1))

    def test_whole_hills(self):
        for frame in (*FRAMES, *WIDE):
            for hill in range(frame.hills):
                low, high = frame.knots[hill], frame.knots[hill + frame.degree + 1]
                worth = pair(Fraction(high - low, frame.degree + 1))
                self.assertEqual(area(hill_alone(frame, hill), low, high), worth)
                self.assertEqual(area(hill_alone(frame, hill), 0, 10 ** 6), worth)

    def test_below_zero_counts_negative(self):
        self.assertEqual(area(Curve(RAMP, ((-3, 1), (-1, 1))), 0, 6), (-8, 1))
        self.assertEqual(area(Curve(RAMP, ((1, 1), (-1, 1))), 0, 6), (0, 1))

    def test_outside_of_the_knots(self):
        self.assertEqual((area(ROOF, 6, 1000000), area(ROOF, 7, 9)), ((0, 1), (0, 1)))
        self.assertEqual(area(ROOF, 3, 500), area(ROOF, 3, 6))


class ArgumentsTest(unittest.TestCase):
    def test_wrong_arguments(self):
        right = {"curve": ARCH, "place": 2}
        for function in (piece, slope):
            check_wrong(self, function, right, {"curve": CURVES, "place": PLACE})

    def test_wrong_arguments_of_area(self):
        wrong = {"curve": CURVES, "first": PLACE, "last": PLACE + given(InvalidNumber, (0, 1, 2))}
        check_wrong(self, area, {"curve": ARCH, "first": 3, "last": 3}, wrong)
        self.assertEqual(area(ARCH, 3, 3), (0, 1))

    def test_calls_change_nothing(self):
        curve = Curve(RAMP, ((3, 1), (1, 1)))
        for _ in range(2):
            self.assertEqual((curve.value(1), piece(curve, 3), slope(curve, 1), area(curve, 0, 6)),
                             ((3, 2), ((5, 1), (-1, 1)), (3, 2), (8, 1)))
        self.assertEqual(curve, ROOF)


if __name__ == "__main__":
    unittest.main()
