"""The section `bentthrough/signs.py` of the document."""

import unittest
from fractions import Fraction
from itertools import combinations_with_replacement, pairwise, product
from math import comb, lcm

from anything import NO_TUPLES
from at_hand import BOW, FRAMES, RAMP, WIDE, small_frames
from bentthrough import signs
from bentthrough.curves import Curve
from bentthrough.errors import InvalidHeights, InvalidNumber
from bentthrough.frames import Frame, stretches
from bentthrough.signs import changes, never_above, turning_row, turns
from examples import check_examples
from reckoned import curve_value, pair
from wrongs import CURVES, NO_HEIGHT, check_ways, check_wrong, elements, given, index

EXAMPLES = """
>>> from bentthrough.signs import changes, never_above, turning_row, turns
>>> swing = Curve(bow, ((1, 1), (-2, 1), (1, 1)))
>>> [changes((3, 0, -1, -2, 0, 5)), turns(roof), turns(swing), turns(Curve(ramp, ((1, 1), (-1, 1)))), turns(Curve(bow, ((1, 1), (-1, 1), (1, 1)))), len(turning_row(swing))]
[2, 1, 3, 2, 1, 3]
>>> [never_above(roof, 3), never_above(roof, 2), never_above(arch, 2), never_above(arch, 1)]
[True, False, True, False]
"""
GREAT = 10 ** 20
ROOF = Curve(RAMP, ((3, 1), (1, 1)))
ARCH = Curve(BOW, ((0, 1), (4, 1), (0, 1)))
ROOT_TWO = (-2, 0, 1)
TINY = Fraction(1, 10 ** 40)


def powers_of(*factors):
    """The powers, from 0 on, of the product of polynomials that are given by theirs."""
    found = [Fraction(1)]
    for factor in factors:
        grown = [Fraction(0)] * (len(found) + len(factor) - 1)
        for one, other in product(range(len(found)), range(len(factor))):
            grown[one + other] += found[one] * factor[other]
        found = grown
    return found


def moved(powers, number):
    """The polynomial with this number more."""
    return [powers[0] + number, *powers[1:]]


def amounts_of(powers, low, high):
    """Amounts for the hills between two knots, each degree and 1 times alike, whose curve is the polynomial."""
    degree, shifted = len(powers) - 1, [Fraction(0)] * len(powers)
    for power, part in enumerate(powers):
        for inner in range(power + 1):
            shifted[inner] += part * comb(power, inner) * low ** (power - inner) * (high - low) ** inner
    return tuple(pair(sum(Fraction(comb(at, inner), comb(degree, inner)) * shifted[inner] for inner in range(at + 1)))
                 for at in range(degree + 1))


def joined(*parts):
    """The curve of polynomials of one degree, each a row (low, high, powers), one behind the other."""
    degree = len(parts[0][2]) - 1
    knots = [parts[0][0]] * (degree + 1)
    for _, high, _ in parts:
        knots += [high] * (degree + 1)
    amounts = [amount for low, high, powers in parts for amount in amounts_of(powers, low, high)]
    return Curve(Frame(degree, tuple(knots)), tuple(amounts))


def curve_with(frame, *amounts):
    """The curve with these amounts, which are integers."""
    return Curve(frame, tuple((amount, 1) for amount in amounts))


def opposite(curve):
    """The curve that is below 0 where this one is above."""
    return Curve(curve.frame, tuple((-top, bottom) for top, bottom in curve.amounts))


def grid(curve, many=24):
    """Values of the curve at so many x within each stretch, and at its ends."""
    return [curve_value(curve, low + Fraction(high - low) * part / many)
            for low, high in stretches(curve.frame) for part in range(many + 1)]


def some_curves():
    """Curves with small amounts of each degree, with knots apart and alike."""
    frames = [frame for degree, many, most in ((0, 3, 3), (1, 3, 3), (2, 3, 3), (3, 2, 2), (4, 2, 2))
              for frame in small_frames(degree, many, most)[::4]]
    for number, frame in enumerate((*frames, *FRAMES, *WIDE)):
        for start in (0, 1, 2):
            tops = [(5 * hill * hill + 3 * number * hill + start * (hill + number)) % 7 - 3
                    for hill in range(frame.hills)]
            yield Curve(frame, tuple(pair(Fraction(top, hill % 3 + 1)) for hill, top in enumerate(tops)))


class ExamplesTest(unittest.TestCase):
    def test_examples_of_the_document(self):
        check_examples(self, EXAMPLES, {"ramp": RAMP, "bow": BOW, "roof": ROOF, "arch": ARCH, "Curve": Curve})

    def test_all_is_defined_in_its_file(self):
        for name in ("changes", "turns", "turning_row", "never_above"):
            self.assertEqual(getattr(signs, name).__module__, "bentthrough.signs")


class ChangesTest(unittest.TestCase):
    def test_rows(self):
        for row, told in (
            ((), 0), ((0,), 0), ((5,), 0), ((-5,), 0), ((0, 0, 0), 0), ((1, 1), 0), ((-1, -2, -3), 0), ((1, -1), 1),
            ((-1, 1), 1), ((1, 0, -1), 1), ((1, 0, 1), 0), ((-1, 0, 0, 0, -1), 0), ((0, 1, 0, -1, 0, 0, 1, 0), 2),
            ((3, 3, 3, -2, -2, -2, 4, 4), 2), ((1, -1, 1, -1, 1), 4), ((0, 0, -7), 0), ((GREAT, -GREAT), 1),
            ((-GREAT, 0, GREAT), 1), ((1, -1) * 500, 999), ((1, 0, -1, 0) * 300, 599), ((0,) * 2000, 0),
            ((2, 3, -1, 0, -4, 0, 9), 2),
        ):
            with self.subTest(row=row[:9]):
                found = check_ways(self, changes, {"row": row})
                self.assertEqual((found, found.__class__), (told, int))

    def test_all_short_rows(self):
        for row in product((-2, 0, 1), repeat=5):
            left = [number for number in row if number]
            self.assertEqual(changes(row), sum(one * other < 0 for one, other in zip(left, left[1:])))

    def test_wrong_rows(self):
        pairs = [(thing, None) for thing in NO_TUPLES] + elements((1, 0, -4), NO_HEIGHT) + elements((0,), NO_HEIGHT)
        pairs += [((1, None, True), 1), ((1, 2, [3], GREAT + 1), 2), ((*range(900), None), 900), ((True,) * 40, 0)]
        check_wrong(self, changes, {"row": (1, 0, -4)}, {"row": index(InvalidHeights, pairs)})


class TurnsTest(unittest.TestCase):
    def check_turns(self, curve, told):
        for one in (curve, opposite(curve)):
            found = check_ways(self, turns, {"curve": one})
            self.assertEqual((found, found.__class__), (told, int))
            self.check_row(one, told)

    def check_row(self, curve, many):
        row = check_ways(self, turning_row, {"curve": curve})
        self.assertEqual((row.__class__, len(row)), (tuple, many))
        places = [Fraction(*x) for x in row]
        self.assertEqual(list(row), [pair(x) for x in places])
        self.assertTrue(all(one < other for one, other in pairwise(places)))
        values = [curve_value(curve, x) for x in places]
        self.assertNotIn(0, values)
        self.assertTrue(all((one > 0) != (other > 0) for one, other in pairwise(values)))

    def test_products_of_factors_with_known_zeros(self):
        zeros = (Fraction(-1), Fraction(0), Fraction(1, 3), Fraction(1), Fraction(3, 2), Fraction(3), Fraction(4))
        for degree in range(5):
            for chosen in combinations_with_replacement(zeros, degree):
                crossed = [zero for zero in set(chosen) if 0 < zero < 3 and chosen.count(zero) % 2]
                with self.subTest(chosen=chosen):
                    self.check_turns(joined((0, 3, powers_of(*[(-zero, 1) for zero in chosen]))), len(crossed) + 1)

    def test_zeros_that_are_no_fractions(self):
        for powers, told in (
            (ROOT_TWO, 2), (powers_of(ROOT_TWO, ROOT_TWO), 1), (powers_of(ROOT_TWO, (-3, 0, 1)), 3), ((1, -3, 1), 3),
            (powers_of((1, -3, 1), (1, -3, 1)), 1), (powers_of((1, -3, 1), ROOT_TWO), 4), ((-2, 0, 0, 1), 2),
            (powers_of(ROOT_TWO, (Fraction(-3, 2), 1)), 3), (powers_of(ROOT_TWO, (-1, 1), (-1, 1)), 2),
            (powers_of(ROOT_TWO, (-1, 1), (-2, 1)), 4), ((-2, 0, 0, 0, 1), 2), ((2, 0, 0, 0, 1), 1), ((1, 0, 1), 1),
            (powers_of((1, 0, 1), ROOT_TWO), 2), (powers_of((1, 0, 1), (1, 0, 1)), 1),
            (powers_of((5, -5, 1), (1, -3, 1)), 4),
            (powers_of((1, -3, 1), (2, -4, 1)), 4), ((-90, 0, 1), 1), (powers_of(ROOT_TWO, (0, 1)), 2),
            (powers_of(ROOT_TWO, (0, 1), (-3, 1)), 2), (powers_of(ROOT_TWO, (0, 1), (0, 1)), 2),
        ):
            with self.subTest(powers=powers):
                self.check_turns(joined((0, 3, powers)), told)

    def test_zeros_side_by_side(self):
        square = powers_of(ROOT_TWO, ROOT_TWO)
        for powers, told in (
            (moved(square, -TINY), 3), (moved(square, TINY), 1), (powers_of((-1, 1), (-1 - TINY, 1)), 3),
            (powers_of((-1, 1), (-1 - TINY, 1), (-1 + TINY, 1)), 4), (powers_of((-TINY, 1), (-2 * TINY, 1)), 3),
            (powers_of((TINY - 3, 1), (2 * TINY - 3, 1), (TINY, 1)), 3),
            (powers_of((-1, 1), (-1, 1), (-1 - TINY, 1)), 2),
            (powers_of((-TINY, 1), (0, 1)), 2), (powers_of((TINY - 3, 1), (-3, 1), (-3, 1)), 2),
        ):
            with self.subTest(powers=powers):
                self.check_turns(joined((0, 3, powers)), told)

    def test_nothing_at_all(self):
        for frame in (*FRAMES, *WIDE):
            self.check_turns(curve_with(frame, *[0] * frame.hills), 0)

    def test_one_hill(self):
        for frame in FRAMES:
            for hill in range(frame.hills):
                self.check_turns(curve_with(frame, *[int(hill == other) for other in range(frame.hills)]), 1)

    def test_steps(self):
        stairs = Frame(0, (0, 1, 5, 6, 7, 10 ** 6))
        for amounts, told in (((1, -1, 1, -1, 1), 5), ((1, 0, 0, 0, -1), 2), ((0, 0, 3, 0, 0), 1),
                              ((1, 0, 2, -1, -1), 2), ((0, 0, 0, 0, 0), 0), ((0, 1, 0, -1, 1), 3)):
            with self.subTest(amounts=amounts):
                self.check_turns(curve_with(stairs, *amounts), told)

    def test_nothing_along_a_stretch_or_at_a_knot(self):
        roofs = Frame(1, (0, 1, 2, 3, 4, 5, 6))
        bows = Frame(2, (0, 1, 2, 3, 4, 5, 6, 7, 8, 9, 10))
        for frame, amounts, told in (
            (roofs, (1, 0, 0, -1, 0), 2), (roofs, (1, 0, 0, 1, 0), 1), (roofs, (1, 0, -1, 0, 1), 3),
            (roofs, (1, 0, 1, 0, 1), 1), (roofs, (0, 0, -1, 0, 0), 1), (roofs, (2, -1, 0, 0, -1), 2),
            (roofs, (2, -1, 0, 0, 3), 3), (bows, (1, 0, 0, 0, -1, 0, 0, 0), 2), (bows, (1, 0, 0, 0, 1, 0, 0, -1), 2),
            (bows, (0, 0, 0, 1, -1, 0, 0, 0), 2), (bows, (1, 0, 0, -1, 0, 0, 0, 1), 3),
            (bows, (1, -1, 1, -1, 1, -1, 1, -1), 8),
            (bows, (3, -3, 9, -9, 27, -27, 81, -81), 8),
        ):
            with self.subTest(amounts=amounts):
                self.check_turns(curve_with(frame, *amounts), told)

    def test_jumps(self):
        for parts, told in (
            (((0, 2, (1, 0)), (2, 4, (-1, 0))), 2), (((0, 2, (1, -1)), (2, 4, (-3, 1))), 3),
            (((0, 2, (2, -1)), (2, 4, (-2, 1))), 1),
            (((0, 2, (2, -1)), (2, 4, (2, -1))), 2), (((0, 2, (1, -1)), (2, 4, (3, -1))), 4),
            (((0, 2, (0, 0)), (2, 4, (-3, 1))), 2),
            (((0, 2, (0, 0)), (2, 4, (0, 0))), 0), (((0, 2, (1,)), (2, 3, (-1,)), (3, 9, (2,))), 3),
            (((0, 2, (1, 0, 0)), (2, 4, (0, 0, 0)), (4, 5, (1, 0, 0))), 1),
            (((0, 2, powers_of(ROOT_TWO, ROOT_TWO)), (2, 4, powers_of((-3, 1), (-3, 1), (-3, 1), (-2, 1)))), 3),
            (((0, 2, powers_of(ROOT_TWO, (-1, 1))), (2, 3, powers_of((-2, 1), (-3, 1), (-9, 1)))), 3),
        ):
            with self.subTest(parts=parts):
                self.check_turns(joined(*parts), told)

    def test_not_more_than_the_changes_of_the_amounts_and_not_less_than_on_a_grid(self):
        for curve in some_curves():
            with self.subTest(frame=curve.frame.text, amounts=curve.amounts):
                found = turns(curve)
                self.check_row(curve, found)
                common = lcm(*[bottom for _, bottom in curve.amounts])
                tops = tuple(top * common // bottom for top, bottom in curve.amounts)
                self.assertLessEqual(found, changes(tops) + 1)
                above = [part > 0 for part in grid(curve) if part]
                seen = bool(above) + sum(one != other for one, other in pairwise(above))
                self.assertGreaterEqual(found, seen)

    def test_wide_amounts(self):
        frame = Frame(4, (0,) * 5 + (10 ** 6,) * 5)
        amounts = ((10 ** 59, 10 ** 59 + 1), (-10 ** 59, 7), (10 ** 58 + 1, 3), (-1, 10 ** 59), (1, 1))
        curve = Curve(frame, amounts)
        self.check_turns(curve, turns(curve))
        self.assertIn(turns(curve), (1, 3, 5))

    def test_no_curves(self):
        check_wrong(self, turns, {"curve": ROOF}, {"curve": CURVES})
        check_wrong(self, turning_row, {"curve": ROOF}, {"curve": CURVES})


class NeverAboveTest(unittest.TestCase):
    def check_above(self, curve, number, told):
        self.assertIs(check_ways(self, never_above, {"curve": curve, "number": number}), told)

    def check_greatest(self, curve, greatest):
        """The curve comes as near as one likes to the greatest number, a fraction, and not above it."""
        for number in (-GREAT, -2, -1, 0, 1, 2, 3, 4, 5, 6, GREAT):
            with self.subTest(number=number):
                self.check_above(curve, number, number >= max(greatest, 0))

    def test_greatest_values(self):
        for curve, greatest in (
            (ROOF, 3), (ARCH, 2), (curve_with(RAMP, 1, 5), 5), (curve_with(RAMP, -1, 2), 2),
            (curve_with(RAMP, -3, -1), 0),
            (curve_with(RAMP, 0, 0), 0), (curve_with(BOW, 0, 0, 4), 4), (curve_with(BOW, 4, 0, 0), 4),
            (curve_with(BOW, 0, 5, 0), Fraction(5, 2)),
            (curve_with(BOW, -1, -1, -1), 0), (curve_with(BOW, -2, 4, -2), 1), (curve_with(BOW, -2, 2, -2), 0),
            (curve_with(BOW, -2, 1, -2), 0), (curve_with(Frame(0, (3, 4)), 2), 2),
            (curve_with(Frame(0, (3, 4)), -2), 0),
            (curve_with(Frame(0, (0, 1, 2)), -2, 4), 4), (curve_with(Frame(3, (0,) * 4 + (3,) * 4), 0, 9, 0, 0), 4),
            (curve_with(Frame(3, (0,) * 4 + (1,) * 4), 0, 9, 0, 0), 4),
            (curve_with(Frame(3, (5,) * 4 + (6,) * 4), 0, 0, 9, 0), 4),
            (curve_with(Frame(2, (0, 1, 2, 3)), 4), 3), (curve_with(Frame(4, (0, 1, 2, 3, 4, 5)), 192), 115),
            (curve_with(Frame(3, (0, 1, 2, 3, 4)), 6), 4), (curve_with(Frame(3, (0, 1, 2, 3, 4)), 3), 2),
            # the greatest value is nowhere taken, at the end of a stretch ahead of a jump
            (joined((0, 2, (0, 1)), (2, 4, (0, 0))), 2), (joined((0, 2, (0, 1)), (2, 4, (-1, 0))), 2),
            (joined((0, 3, (0, 1))), 3), (joined((0, 3, (3, -1)), (3, 5, (-3, 1))), 3),
        ):
            with self.subTest(frame=curve.frame.text, amounts=curve.amounts):
                self.check_greatest(curve, greatest)

    def test_greatest_values_where_x_is_no_fraction(self):
        hat = [-part for part in powers_of(ROOT_TWO, ROOT_TWO)]
        for number in (0, 1, 5):
            for more, greatest in ((0, number), (TINY, number + TINY), (-TINY, number - TINY)):
                with self.subTest(number=number, more=more):
                    self.check_greatest(joined((0, 2, moved(hat, number + more))), greatest)

    def test_beside_great_numbers(self):
        for top in (GREAT, GREAT - 1, GREAT + 1, 10 ** 59):
            for frame in (RAMP, Frame(0, (0, 1, 2))):
                curve = curve_with(frame, -top, top)
                for number in (GREAT, GREAT - 1, 0, -1, -GREAT):
                    self.check_above(curve, number, number >= top)

    def test_only_just_above_and_below(self):
        for curve, number, told in (
            (Curve(RAMP, ((1, 10 ** 59), (-1, 1))), 0, False), (Curve(RAMP, ((-1, 10 ** 59), (-1, 1))), 0, True),
            (Curve(RAMP, ((10 ** 59 + 1, 10 ** 59), (1, 1))), 1, False),
            (Curve(RAMP, ((10 ** 59 - 1, 10 ** 59), (1, 1))), 1, True),
            (joined((0, 3, powers_of((-1, 1), (-1 - TINY, 1)))), 3, False),
            (joined((0, 3, powers_of((-1, 1), (-1 - TINY, 1)))), 4, True),
            (joined((0, 3, powers_of((-1, 1), (1 + TINY, -1)))), 0, False),
            (joined((0, 3, powers_of((-1, 1), (1, -1)))), 0, True),
        ):
            with self.subTest(amounts=curve.amounts, number=number):
                self.check_above(curve, number, told)

    def test_not_below_the_values_on_a_grid_and_not_above_the_amounts(self):
        for curve in some_curves():
            seen, most = max(grid(curve, 12)), max(Fraction(*amount) for amount in curve.amounts)
            with self.subTest(frame=curve.frame.text, amounts=curve.amounts):
                for number in range(-2, 5):
                    if number < max(seen, 0):
                        self.check_above(curve, number, False)
                    elif number >= most:
                        self.check_above(curve, number, True)

    def test_wrong_arguments(self):
        wrong = {"curve": CURVES, "number": given(InvalidNumber, NO_HEIGHT)}
        check_wrong(self, never_above, {"curve": ROOF, "number": 3}, wrong)
        check_wrong(self, never_above, {"curve": ROOF, "number": -GREAT}, wrong)

    def test_calls_change_nothing(self):
        curve = Curve(RAMP, ((3, 1), (1, 1)))
        for _ in range(2):
            self.assertEqual((turns(curve), len(turning_row(curve)), never_above(curve, 3)), (1, 1, True))
            self.assertEqual(turning_row(curve), turning_row(curve))
        self.assertEqual(curve, ROOF)


if __name__ == "__main__":
    unittest.main()
