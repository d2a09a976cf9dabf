"""The section `bentthrough/putting.py` of the document."""

import unittest
from fractions import Fraction
from itertools import combinations, pairwise

from anything import NO_INTEGERS, NO_TUPLES
from at_hand import BOW, FRAMES, RAMP, WIDE, curve_of, places_near, small_frames
from bentthrough import putting
from bentthrough.curves import Curve
from bentthrough.errors import InvalidKnot, InvalidKnots, InvalidOffers, TooMany
from bentthrough.frames import Frame
from bentthrough.putting import mending, put_in, taken_out
from examples import check_examples
from reckoned import curve_value, hill_value, rows_rank, table_rank
from wrongs import CURVES, FRAMES as NO_FRAME_ROWS
from wrongs import NO_PLACE, PLACES, check_error, check_last, check_ways, check_wrong, elements, given, index

EXAMPLES = """
>>> from bentthrough.putting import mending, put_in, taken_out
>>> [put_in(roof, 3).amounts, put_in(roof, 3).frame.knots, taken_out(put_in(roof, 3), 3) == roof, taken_out(roof, 2), put_in(arch, 2).amounts]
[((3, 1), (2, 1), (1, 1)), (0, 2, 3, 4, 6), True, None, ((0, 1), (2, 1), (2, 1), (0, 1))]
>>> mending(ramp, (1, 2), (1, 3, 5))
((0,),)
"""
ROOF = Curve(RAMP, ((3, 1), (1, 1)))
ARCH = Curve(BOW, ((0, 1), (4, 1), (0, 1)))
LAST = 10 ** 6


def some_x(*frames):
    """Knots of the frames and many fractions between, beside and beyond them."""
    marks = sorted({knot for frame in frames for knot in frame.knots})
    found = {Fraction(mark) for mark in marks}
    for low, high in pairwise([marks[0] - 2, *marks, marks[-1] + 2]):
        found |= {low + Fraction((high - low) * part, 7) for part in range(1, 7)}
        found |= {low + Fraction(1, 10 ** 9), high - Fraction(1, 10 ** 9)}
    return sorted(found)


def inner_knots(frame):
    """Integers between the first and the last knot that can be put in, as they are not there too often yet."""
    first, last = frame.knots[0], frame.knots[-1]
    return [knot for knot in places_near(frame)
            if first < knot < last and frame.knots.count(knot) <= frame.degree]


def without(knots, knot):
    """The knots with this one once less."""
    at = knots.index(knot)
    return knots[:at] + knots[at + 1:]


def is_curve_of(curve, smaller):
    """Whether the curve is, between its knots, a curve of the smaller frame, none of whose knots is another one."""
    xs = [low + Fraction((high - low) * part, 9) for low, high in pairwise(sorted(set(curve.frame.knots)))
          for part in range(1, 6)]
    rows = [[hill_value(smaller, hill, x) for hill in range(smaller.hills)] for x in xs]
    values = [curve_value(curve, x) for x in xs]
    return rows_rank([[*row, part] for row, part in zip(rows, values)]) == rows_rank(rows)


class ExamplesTest(unittest.TestCase):
    def test_examples_of_the_document(self):
        check_examples(self, EXAMPLES, {"ramp": RAMP, "roof": ROOF, "arch": ARCH})

    def test_all_is_defined_in_its_file(self):
        for name in ("put_in", "taken_out", "mending"):
            self.assertEqual(getattr(putting, name).__module__, "bentthrough.putting")


class PutInTest(unittest.TestCase):
    def check_put_in(self, curve, knot):
        found = check_ways(self, put_in, {"curve": curve, "knot": knot})
        self.assertIs(found.__class__, Curve)
        self.assertEqual(found.frame, Frame(curve.frame.degree, tuple(sorted((*curve.frame.knots, knot)))))
        for x in some_x(found.frame):
            self.assertEqual(curve_value(found, x), curve_value(curve, x))
        self.assertEqual(check_ways(self, taken_out, {"curve": found, "knot": knot}), curve)
        return found

    def test_all_knots_between_the_ends(self):
        for number, frame in enumerate((*FRAMES, *WIDE)):
            curve = curve_of(frame, number)
            for knot in inner_knots(frame) if frame.hills < 10 else ():
                with self.subTest(frame=frame.text, knot=knot):
                    self.check_put_in(curve, knot)

    def test_small_frames(self):
        for degree, many, most in ((0, 2, 3), (1, 2, 3), (2, 2, 3), (3, 2, 2), (4, 1, 2)):
            for number, frame in enumerate(small_frames(degree, many, most)[::2]):
                for knot in inner_knots(frame):
                    with self.subTest(frame=frame.text, knot=knot):
                        self.check_put_in(curve_of(frame, number), knot)

    def test_as_often_as_can_be(self):
        for degree in range(5):
            for knots in ((0,) * (degree + 1) + (8,) * (degree + 1), tuple(range(0, 2 * degree + 5, 2))):
                frame = Frame(degree, knots)
                curve = curve_of(frame, degree)
                for knot in (1, 2, knots[-1] - 1):
                    grown = curve
                    while grown.frame.knots.count(knot) <= degree and grown.frame.hills < 10:
                        grown = self.check_put_in(grown, knot)
                    check_error(self, put_in, {"curve": grown, "knot": knot}, InvalidKnot, "given", knot)

    def test_one_after_the_other_in_any_order(self):
        for frame in (RAMP, Frame(2, (0, 0, 0, 6, 6, 6)), Frame(3, (0, 1, 4, 6, 9)), Frame(4, (0, 0, 2, 5, 9, 9))):
            curve = curve_of(frame, 3)
            one, other = put_in(put_in(put_in(curve, 5), 3), 3), put_in(put_in(put_in(curve, 3), 5), 3)
            self.assertEqual(one, other)
            self.assertEqual(taken_out(taken_out(taken_out(one, 3), 5), 3), curve)

    def test_by_hand(self):
        self.assertEqual(put_in(Curve(Frame(0, (0, 9)), ((5, 2),)), 4).amounts, ((5, 2), (5, 2)))
        self.assertEqual(put_in(Curve(Frame(0, (0, 3, 9)), ((1, 1), (2, 1))), 2).amounts, ((1, 1), (1, 1), (2, 1)))
        self.assertEqual(put_in(ROOF, 2).amounts, ((3, 1), (3, 1), (1, 1)))
        self.assertEqual(put_in(ROOF, 1).amounts, ((3, 2), (3, 1), (1, 1)))
        self.assertEqual(put_in(ROOF, 5).amounts, ((3, 1), (1, 1), (1, 2)))
        self.assertEqual(put_in(ARCH, 1).amounts, ((0, 1), (1, 1), (3, 1), (0, 1)))

    def test_up_to_ten_hills(self):
        curve = curve_of(Frame(2, tuple(range(0, 24, 2))))
        self.assertEqual(self.check_put_in(curve, 7).frame.hills, 10)


class TakenOutTest(unittest.TestCase):
    def check_taken_out(self, curve, knot):
        """Fails the case unless the curve without the knot is the same, or is told as none of the smaller frame."""
        smaller = Frame(curve.frame.degree, without(curve.frame.knots, knot))
        found = check_ways(self, taken_out, {"curve": curve, "knot": knot})
        if found is None:
            self.assertFalse(is_curve_of(curve, smaller))
            return None
        self.assertEqual((found.__class__, found.frame), (Curve, smaller))
        for x in some_x(curve.frame):
            if x not in (curve.frame.knots[-1], smaller.knots[-1]):
                self.assertEqual(curve_value(found, x), curve_value(curve, x))
        return found

    def check_all(self, curve):
        """How many of the knots can be taken out, and how many can't."""
        found = [self.check_taken_out(curve, knot) for knot in sorted(set(curve.frame.knots))]
        return len(found) - found.count(None), found.count(None)

    def test_curves_of_many_amounts(self):
        for number, frame in enumerate((*FRAMES, *WIDE)):
            if frame.hills > 1:
                with self.subTest(frame=frame.text):
                    self.assertGreater(self.check_all(curve_of(frame, number))[1], 0)

    def test_small_curves(self):
        counts = []
        for degree, many, most in ((0, 3, 3), (1, 2, 3), (1, 3, 2), (2, 2, 2), (2, 3, 2), (3, 2, 2), (4, 2, 1)):
            for number, frame in enumerate(small_frames(degree, many, most)):
                for start in (0, 1, 2, 3):
                    tops = [((start >> hill) + hill * number * start) % 2 for hill in range(many)]
                    with self.subTest(frame=frame.text, tops=tops):
                        counts.append(self.check_all(Curve(frame, tuple((top, 1) for top in tops))))
        self.assertGreater(min(sum(column) for column in zip(*counts)), 300)

    def test_nothing_at_all_loses_each_knot(self):
        for frame in (*FRAMES, *WIDE):
            if frame.hills > 1:
                with self.subTest(frame=frame.text):
                    nothing = Curve(frame, ((0, 1),) * frame.hills)
                    self.assertEqual(self.check_all(nothing), (len(set(frame.knots)), 0))

    def test_first_and_last_knots(self):
        for frame in (RAMP, BOW, Frame(0, (0, 2, 4, 5)), Frame(1, (0, 0, 2, 2, 5, 5)), Frame(2, (1, 1, 3, 3, 6, 8, 8)),
                      Frame(3, (0, 2, 3, 7, 8, 9)), Frame(4, (0,) * 5 + (8,) * 5)):
            first, last, many = frame.knots[0], frame.knots[-1], frame.hills
            for ahead in (0, 1):
                for behind in (0, 3):
                    tops = [ahead, *[7] * (many - 2), behind]
                    curve = Curve(frame, tuple((top, 1) for top in tops))
                    with self.subTest(frame=frame.text, tops=tops):
                        one, other = self.check_taken_out(curve, first), self.check_taken_out(curve, last)
                        self.assertEqual(None if one is None else one.amounts,
                                         None if ahead else curve.amounts[1:])
                        self.assertEqual(None if other is None else other.amounts,
                                         None if behind else curve.amounts[:-1])

    def test_what_is_one_everywhere_keeps_its_end_knots_alone(self):
        for degree in range(5):
            ends = ((0,) * (degree + 1), (9,) * (degree + 1))
            frame = Frame(degree, (*ends[0], 2, *[5] * degree, *ends[1]))
            curve = Curve(frame, ((1, 1),) * frame.hills)
            self.assertIsNone(self.check_taken_out(curve, 0))
            self.assertIsNone(self.check_taken_out(curve, 9))
            curve = self.check_taken_out(curve, 2)
            for _ in range(degree):
                curve = self.check_taken_out(curve, 5)
            self.assertEqual(curve, Curve(Frame(degree, ends[0] + ends[1]), ((1, 1),) * (degree + 1)))

    def test_jumps_at_the_last_knots_are_left_out(self):
        # At 2 the curve comes down to 0 at once, but the last knot of the smaller frame belongs to what is left of it.
        curve = Curve(Frame(1, (0, 2, 2, 4)), ((5, 1), (0, 1)))
        found = self.check_taken_out(curve, 4)
        self.assertEqual((curve.value(2), found.value(2)), ((0, 1), (5, 1)))

    def test_amounts_that_only_just_differ(self):
        for more in (Fraction(0), Fraction(1, 10 ** 50)):
            curve = put_in(curve_of(Frame(2, (0, 0, 0, 3, 9, 9, 9)), 1), 4)
            changed = Fraction(*curve.amounts[2]) + more
            amounts = (*curve.amounts[:2], (changed.numerator, changed.denominator), *curve.amounts[3:])
            self.assertIs(taken_out(Curve(curve.frame, amounts), 4) is None, more > 0)


class MendingTest(unittest.TestCase):
    def sets_that_mend(self, frame, places, offers):
        """All sets of offers with which the rank of the table of values is the number of places."""
        found = []
        for many in range(len(offers) + 1):
            for chosen in combinations(range(len(offers)), many):
                try:
                    wider = Frame(frame.degree, tuple(sorted((*frame.knots, *[offers[at] for at in chosen]))))
                except InvalidKnots:
                    continue
                if table_rank(wider, places) == len(places):
                    found.append(chosen)
        return found

    def check_mending(self, frame, places, offers):
        good = self.sets_that_mend(frame, places, offers)
        least = [one for one in good if not any(set(other) < set(one) for other in good)]
        found = check_ways(self, mending, {"frame": frame, "places": places, "offers": offers})
        self.assertEqual(found, tuple(sorted(least, key=lambda chosen: (len(chosen), chosen))))
        return found

    def test_small_frames(self):
        for degree, many, most in ((0, 1, 3), (0, 2, 3), (1, 1, 3), (1, 2, 3), (2, 1, 3), (2, 2, 2), (4, 1, 1)):
            for number, frame in enumerate(small_frames(degree, many, most)[::3]):
                for places in ((1,), (1, 2), (0, 3), (0, 1, 2, 4)):
                    offers = tuple((number * 3 + at * at * 2 + len(places)) % 5 for at in range(number % 5))
                    with self.subTest(frame=frame.text, places=places, offers=offers):
                        self.check_mending(frame, places, offers)

    def test_six_offers(self):
        for frame in FRAMES[::2]:
            if frame.hills <= 6:
                near = places_near(frame)
                offers = (near[1], near[-2], near[len(near) // 2], near[1], near[-3], near[2])
                for places in (tuple(near[:3]), tuple(near[1:8:2]), tuple(near[2:8])):
                    with self.subTest(frame=frame.text, places=places, offers=offers):
                        self.check_mending(frame, places, offers)

    def test_none_is_needed(self):
        for offers in ((), (3,), (1, 1, 1, 1, 1, 1), (0, LAST)):
            self.assertEqual(self.check_mending(RAMP, (1, 5), offers), ((),))

    def test_no_set_is_enough(self):
        for frame, places, offers in ((RAMP, (1, 2), ()), (RAMP, (1, 2), (3, 5)), (RAMP, (7,), ()), (RAMP, (7,), (1,)),
                                      (RAMP, tuple(range(12)), (1, 2, 3, 4, 5, 6)), (BOW, (5, 6, 7, 8), (5, 5, 5))):
            with self.subTest(places=places, offers=offers):
                self.assertEqual(self.check_mending(frame, places, offers), ())

    def test_by_hand(self):
        for frame, places, offers, told in (
            (RAMP, (1, 2), (1, 1), ((0,), (1,))), (RAMP, (1, 2), (3, 1, 5, 1), ((1,), (3,))),
            # beyond the last knot, and ahead of the first one
            (RAMP, (7,), (8,), ((0,),)), (RAMP, (7,), (8, 8), ((0,), (1,))), (RAMP, (7,), (7,), ()),
            (RAMP, (7,), (7, 7), ((0, 1),)),
            (Frame(1, (3, 5, 7)), (1,), (0, 1), ((0,),)), (Frame(1, (3, 5, 7)), (1,), (1, 1), ((0, 1),)),
            (Frame(1, (3, 5, 7)), (1, 9), (0, LAST, 10), ((0, 1), (0, 2))),
            # at knots that are there
            (Frame(1, (0, 3, 5)), (0,), (0, 3), ((0,),)),
            (Frame(0, (0, 4)), (1, 2), (2, 0, 4), ((0,),)), (Frame(0, (0, 4)), (5,), (5, 9, 9), ((0,), (1,), (2,))),
        ):
            with self.subTest(frame=frame.text, places=places, offers=offers):
                self.assertEqual(self.check_mending(frame, places, offers), told)

    def test_sets_without_a_frame(self):
        # A knot is there as often as can be, or there would be more than ten hills.
        self.assertEqual(self.check_mending(Frame(0, (0, 2, 4)), (0, 1), (0, 2, 1)), ((2,),))
        self.assertEqual(self.check_mending(Frame(0, (0, 4)), (1, 3), (2, 2)), ((0,), (1,)))
        stairs = Frame(0, tuple(range(0, 20, 2)))
        self.assertEqual(stairs.hills, 9)
        self.assertEqual(self.check_mending(stairs, (0, 1), (1, 5, 9)), ((0,),))
        self.assertEqual(self.check_mending(stairs, (0, 1, 2, 3), (1, 3, 5)), ())
        full = Frame(0, tuple(range(0, 22, 2)))
        self.assertEqual(self.check_mending(full, (0, 1), (1, 3)), ())
        self.assertEqual(self.check_mending(full, (0, 2), (1, 3)), ((),))

    def test_wide_frames(self):
        for frame in WIDE:
            for places in ((0, 1), (1, 2, 3, LAST), (5, 333333, 999998, 999999, LAST)):
                with self.subTest(frame=frame.text, places=places):
                    self.check_mending(frame, places, (0, LAST, 2, 999999, 333333))


class ArgumentsTest(unittest.TestCase):
    def test_wrong_arguments_of_put_in(self):
        wrong_knots = (*NO_INTEGERS, 0, 6, -1, 7, LAST, LAST + 1, 10 ** 59, -10 ** 59)
        wrong = {"curve": CURVES, "knot": given(InvalidKnot, wrong_knots)}
        check_wrong(self, put_in, {"curve": ROOF, "knot": 3}, wrong)
        full = Curve(Frame(1, (0, 2, 2, 6)), ((1, 1), (1, 1)))
        check_wrong(self, put_in, {"curve": full, "knot": 3}, {"knot": given(InvalidKnot, (2, 0, 6))})
        step = Curve(Frame(0, (3, 5, 9)), ((1, 1), (1, 1)))
        check_wrong(self, put_in, {"curve": step, "knot": 4}, {"knot": given(InvalidKnot, (5, 3, 9, 2, 10))})

    def test_too_many_comes_last(self):
        for frame in FRAMES:
            if frame.hills == 10:
                first, last = frame.knots[0], frame.knots[-1]
                wrong_knots = [*NO_INTEGERS, first, last, first - 1, last + 1]
                wrong_knots += [knot for knot in set(frame.knots) if frame.knots.count(knot) == frame.degree + 1]
                wrong = {"curve": CURVES, "knot": given(InvalidKnot, wrong_knots)}
                for knot in inner_knots(frame):
                    check_last(self, put_in, {"curve": curve_of(frame), "knot": knot}, (TooMany, "limit", 10), wrong)

    def test_wrong_arguments_of_taken_out(self):
        wrong = {"curve": CURVES, "knot": given(InvalidKnot, (*NO_INTEGERS, 1, 3, 5, 7, -1, LAST, 10 ** 59))}
        check_wrong(self, taken_out, {"curve": ROOF, "knot": 2}, wrong)
        ones = Curve(Frame(1, (0, 1, 2, 3)), ((1, 1), (1, 1)))
        check_wrong(self, taken_out, {"curve": ones, "knot": 1}, {"knot": given(InvalidKnot, (True, False, 4))})

    def test_no_frame_is_left(self):
        for frame in FRAMES:
            if frame.hills == 1:
                for knot in frame.knots:
                    check_error(self, taken_out, {"curve": Curve(frame, ((0, 1),)), "knot": knot}, InvalidKnot,
                                "given", knot)

    def test_wrong_arguments_of_mending(self):
        pairs = [(thing, None) for thing in NO_TUPLES] + elements((1, 3, 5), NO_PLACE) + elements((7,), NO_PLACE)
        pairs += elements((5, 5, 5, 5, 5, 5), (-1, True, LAST + 1))
        pairs += [((1,) * 7, 6), (tuple(range(60)), 6), ((1,) * 6 + (None,), 6), ((1, None, *range(9)), 1),
                  ((-1,) * 7, 0), ((0, 1, 2, 3, 4, LAST + 1, 6), 5), ((1, [2], True), 1), ((LAST, LAST + 1), 1)]
        wrong = {"frame": NO_FRAME_ROWS, "places": PLACES, "offers": index(InvalidOffers, pairs)}
        check_wrong(self, mending, {"frame": RAMP, "places": (1, 2), "offers": (1, 3, 5)}, wrong)

    def test_offers_that_are_right(self):
        self.assertEqual(mending(RAMP, (1, 2), (LAST, 0, 0, LAST, 6, 6)), ((1,), (2,)))
        self.assertEqual(mending(RAMP, (1, 2), (5, 4, 3, 2, 1, 0)), ((3,), (4,), (5,)))

    def test_calls_change_nothing(self):
        curve = Curve(Frame(1, (0, 2, 4, 6)), ((3, 1), (1, 1)))
        for _ in range(2):
            self.assertEqual(put_in(curve, 3).amounts, ((3, 1), (2, 1), (1, 1)))
            self.assertIsNone(taken_out(curve, 2))
            self.assertEqual(mending(curve.frame, (1, 2), (1, 3, 5)), ((0,),))
        self.assertEqual(curve, ROOF)


if __name__ == "__main__":
    unittest.main()
