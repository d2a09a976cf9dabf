"""The section `bentthrough/checker.py` of the document, and [13]."""

import unittest

from anything import NO_STRINGS, NO_TUPLES
from at_hand import BOW, FRAMES, RAMP, WIDE, places_near
from bentthrough import checker
from bentthrough.checker import accepts
from bentthrough.frames import Frame
from papers import THINGS, changed, should_accept
from wrongs import NO_CURVES, NO_FRACTIONS, NO_ROW_OF_PLACES, check_ways

RAMP_TEXT = "degree 1 knots 0 2 4 6"
BOW_TEXT = "degree 2 knots 0 0 0 4 4 4"
STEP_TEXT = "degree 0 knots 0 2 4"
GREAT = 10 ** 20

# Claims that are true, each with a paper that shows it.
RIGHT = (
    (("through", RAMP_TEXT, (1, 5), (3, 1)), ((6, 1), (2, 1))),
    (("through", RAMP_TEXT, (1, 2), (1, 2)), ((2, 1), (-7, 3))),
    (("through", RAMP_TEXT, (7,), (0,)), ((1, 2), (5, 1))),
    (("through", BOW_TEXT, (0, 2, 4), (0, 1, 0)), ((0, 1), (2, 1), (0, 1))),
    (("through", STEP_TEXT, (1, 4), (GREAT, -GREAT)), ((GREAT, 1), (-GREAT, 1))),
    (("never", RAMP_TEXT, (1, 2), (1, 1)), (2, -1)),
    (("never", RAMP_TEXT, (1, 2), (1, 1)), (-6, 3)),
    (("never", RAMP_TEXT, (7,), (5,)), (1,)),
    (("never", RAMP_TEXT, (1, 5, 9), (1, 0, 1)), (0, 0, -4)),
    (("never", STEP_TEXT, (0, 1, 2, 3), (1, 1, 2, 3)), (0, 0, 1, -1)),
    (("never", BOW_TEXT, (0, 1, 2, 3), (1, 0, 0, 0)), (-2, 6, -6, 2)),
    (("rank", RAMP_TEXT, (1, 5), 2), ((0, 0), (1, 1))),
    (("rank", RAMP_TEXT, (1, 2, 5), 1), ((1, 2),)),
    (("rank", RAMP_TEXT, (6, 7), 0), ()),
    (("rank", BOW_TEXT, (0, 1, 4), 3), ((0, 0), (1, 1), (2, 2))),
    (("rank", STEP_TEXT, (0, 1, 2, 4), 2), ((0, 1), (1, 3))),
    (("below", RAMP_TEXT, (1, 2), 1), ((2, -1),)),
    (("below", RAMP_TEXT, (1, 2), 2), ()),
    (("below", RAMP_TEXT, (1, 2), 10 ** 59), ()),
    (("below", RAMP_TEXT, (6, 7), 0), ((1, 1), (5, 0))),
    (("below", RAMP_TEXT, (6, 7, 8), 1), ((0, 1, 1), (0, 0, -3))),
    (("below", RAMP_TEXT, (1, 2, 3, 9), 2), ((2, -1, 0, 9), (0, 0, 0, 1))),
    (("turns", RAMP_TEXT, ((1, 1), (-1, 1)), 2), ((1, 1), (5, 1))),
    (("turns", RAMP_TEXT, ((1, 1), (-1, 1)), 2), ((1, 7), (17, 3))),
    (("turns", RAMP_TEXT, ((1, 1), (-1, 1)), 1), ((5, 1),)),
    (("turns", RAMP_TEXT, ((0, 1), (0, 1)), 0), ()),
    (("turns", RAMP_TEXT, ((3, 1), (1, 1)), 0), ()),
    (("turns", BOW_TEXT, ((1, 1), (-2, 1), (1, 1)), 3), ((0, 1), (2, 1), (4, 1))),
    (("turns", STEP_TEXT, ((1, 2), (-1, 3)), 2), ((0, 1), (4, 1))),
    (("turns", STEP_TEXT, ((1, 2), (-1, 3)), 2), ((199, 100), (2, 1))),
)


class CheckerTest(unittest.TestCase):
    def check_answer(self, claim, paper, told):
        self.assertIs(accepts(claim, paper), told)
        self.assertIs(accepts(paper=paper, claim=claim), told)

    def check_as_worked_out(self, claim, paper):
        """Fails the case unless the answer is as [13] says; returns it."""
        found = accepts(claim, paper)
        if found is not should_accept(claim, paper):
            self.fail(f"accepts({claim!r}, {paper!r}) is {found}")
        return found

    def test_all_is_defined_in_its_file(self):
        self.assertEqual((accepts.__module__, checker.accepts), ("bentthrough.checker", accepts))

    def test_claims_that_are_true(self):
        for claim, paper in RIGHT:
            with self.subTest(claim=claim, paper=paper):
                self.assertIs(check_ways(self, accepts, {"claim": claim, "paper": paper}), True)
                self.assertTrue(should_accept(claim, paper))

    def test_one_part_of_the_claim_changed(self):
        counts = {True: 0, False: 0}
        for claim, paper in RIGHT:
            with self.subTest(claim=claim, paper=paper):
                for other in changed(claim):
                    counts[self.check_as_worked_out(other, paper)] += 1
        self.assertGreater(counts[True], 40)
        self.assertGreater(counts[False], 5000)

    def test_one_part_of_the_paper_changed(self):
        counts = {True: 0, False: 0}
        for claim, paper in RIGHT:
            with self.subTest(claim=claim, paper=paper):
                for other in changed(paper):
                    counts[self.check_as_worked_out(claim, other)] += 1
        self.assertGreater(counts[True], 40)
        self.assertGreater(counts[False], 4000)

    def test_papers_of_other_claims(self):
        for claim, _ in RIGHT:
            for _, paper in RIGHT:
                for word in ("through", "never", "rank", "below", "turns"):
                    self.check_as_worked_out((word, *claim[1:]), paper)

    def test_values_of_any_kind(self):
        claim, paper = RIGHT[0]
        for thing in (*THINGS, *NO_TUPLES, *NO_STRINGS, *NO_CURVES, *NO_FRACTIONS):
            self.check_answer(thing, paper, False)
            self.check_answer(claim, thing, False)
            self.check_answer(thing, thing, False)
            for row in ((thing,) * 4, (thing, *claim[1:]), ("turns", thing, thing, thing),
                        ("rank", RAMP_TEXT, thing, thing), ("below", RAMP_TEXT, (1, 2), thing)):
                self.check_as_worked_out(row, paper)
                self.check_as_worked_out(row, thing)

    def test_places_that_are_none(self):
        for places, _ in NO_ROW_OF_PLACES:
            many = len(places) if isinstance(places, (tuple, list, str, dict, set)) else 1
            for row in ((0,) * many, (1,) * many):
                self.check_answer(("through", RAMP_TEXT, places, row), ((0, 1), (0, 1)), False)
                self.check_answer(("never", RAMP_TEXT, places, row), (1,) * many, False)
            self.check_answer(("rank", RAMP_TEXT, places, 0), (), False)
            self.check_answer(("below", RAMP_TEXT, places, 99), (), False)

    def test_fractions_that_are_none(self):
        for thing in NO_FRACTIONS:
            self.check_answer(("through", RAMP_TEXT, (7,), (0,)), (thing, (0, 1)), False)
            self.check_answer(("through", RAMP_TEXT, (7,), (0,)), ((0, 1), thing), False)
            self.check_answer(("turns", RAMP_TEXT, ((1, 1), thing), 0), (), False)
            self.check_answer(("turns", RAMP_TEXT, ((1, 1), (-1, 1)), 1), (thing,), False)
            self.check_answer(("turns", RAMP_TEXT, ((1, 1), (-1, 1)), 2), ((1, 1), thing), False)

    def test_texts_that_are_none(self):
        for text in ("", "degree 1 knots", "degree 1 knots 0 2 04", "degree 1 knots 0 2 4 6 ", " degree 1 knots 0 2 4",
                     "degree 1 knots 6 4 2 0", "degree 5 knots 0 2 4 6", "degree 1 knots 0 0 0 6", "Degree 1 knots 0 2",
                     "degree 1  knots 0 2 4 6", "degree 1 knots 0 2 4 1000001", "degree 1 knots 0,2,4,6", RAMP):
            self.check_answer(("through", text, (1, 5), (3, 1)), ((6, 1), (2, 1)), False)
            self.check_answer(("rank", text, (1,), 0), (), False)

    def test_matchings(self):
        for paper, told in (
            (((0, 0), (1, 1)), True), (((0, 0), (1, 2)), True), (((0, 1), (1, 2)), True),
            (((1, 0), (0, 1)), False),
            (((0, 1), (1, 1)), False), (((0, 0), (0, 1)), False), (((0, 1), (1, 0)), False),
            (((0, 0), (1, 3)), False), (((0, 2), (1, 3)), False),
            (((0, 0), (2, 2)), False), (((0, 0), (1, -1)), False), (((-1, 0), (1, 2)), False),
            (((0, 2), (1, 1)), False), (((0, 0), (True, 2)), False), (((0, False), (1, 2)), False),
            (([0, 0], (1, 2)), False), ([(0, 0), (1, 2)], False), (((0, 0),), False),
            (((0, 0), (1, 2), (1, 2)), False), (((0, 0, 0), (1, 2)), False), ((), False),
        ):
            with self.subTest(paper=paper):
                self.check_answer(("rank", RAMP_TEXT, (1, 3, 5), 2), paper, told)
        self.check_answer(("rank", RAMP_TEXT, (1, 2), 2), ((0, 0), (1, 1)), False)
        self.check_answer(("rank", RAMP_TEXT, (4, 5), 2), ((0, 0), (1, 1)), False)

    def test_weights_that_are_not_free_of_one_another(self):
        for paper, told in (
            (((1, 0, 0), (0, 1, 0), (0, 0, 1)), True), (((1, 1, 1), (0, 1, 1), (0, 0, 1)), True),
            (((0, 0, 1), (0, 1, 0), (1, 0, 0)), True), (((1, 0, 0), (1, 1, 0), (1, 1, 1)), False),
            (((1, 1, 1), (1, 1, 0), (1, 0, 0)), True), (((1, 2, 3), (2, 4, 6), (0, 0, 1)), False),
            (((1, 0, 0), (0, 1, 0), (0, 0, 0)), False), (((0, 0, 0), (0, 1, 0), (0, 0, 1)), False),
            (((1, 0, 0), (0, 1, 0), (0, 1, 0)), False), (((1, 0, 0), (1, 0, 0), (0, 0, 1)), False),
            (((5, -5, 0), (-5, 5, 1), (0, 1, 1)), False), (((5, 0, 0), (0, 5, 1), (0, 7, 0)), True),
        ):
            with self.subTest(paper=paper):
                self.check_answer(("below", RAMP_TEXT, (6, 7, 8), 0), paper, told)

    def test_numbers_of_weights(self):
        rows = ((0, 0, 1), (0, 1, 0), (1, 0, 0))
        for number in (0, 1, 2, 3, 4, 13, 10 ** 59):
            for many in range(4):
                told = many == max(3 - number, 0)
                self.check_answer(("below", RAMP_TEXT, (6, 7, 8), number), rows[:many], told)
        for number in (-1, True, False, None, "1", (1,), -10 ** 59):
            for many in range(4):
                self.check_answer(("below", RAMP_TEXT, (6, 7, 8), number), rows[:many], False)

    def test_turns(self):
        claim = ("turns", RAMP_TEXT, ((1, 1), (-1, 1)))
        for paper, told in (
            ((), True), (((1, 1),), True), (((3, 1),), False), (((3, 1), (5, 1)), False), (((1, 1), (3, 1)), False),
            (((29, 10), (31, 10)), True), (((31, 10), (29, 10)), False), (((1, 1), (1, 1)), False),
            (((1, 1), (2, 1)), False),
            (((1, 1), (6, 1)), False), (((0, 1), (5, 1)), False), (((-1, 1), (5, 1)), False),
            (((1, 1), (10 ** 59, 1)), False), (((1, 10 ** 59), (6 * 10 ** 59 - 1, 10 ** 59)), True),
            (((1, 10 ** 59), (6 * 10 ** 59 + 1, 10 ** 59)), False), (((-1, 10 ** 59), (5, 1)), False),
            (((1, 1), (5, 1), (7, 1)), False), (((7, 2), (11, 2)), False),
            # as pairs these are not ascending, but as numbers, and the other way round
            (((5, 2), (4, 1)), True), (((2, 1), (16, 3)), True), (((16, 3), (17, 10)), False),
            (((3, 2), (16, 10)), False),
        ):
            with self.subTest(paper=paper):
                self.check_answer((*claim, len(paper)), paper, told)
                for other in (len(paper) + 1, len(paper) - 1):
                    self.check_answer((*claim, other), paper, False)

    def test_turns_at_the_knots_and_the_last_one(self):
        # On the right of each knot its own value holds, at the last one that from the left.
        both, tent = ((1, 1), (-1, 1)), "degree 1 knots 0 2 2 4"
        for text, amounts, paper, told in (
            (STEP_TEXT, both, ((0, 1), (2, 1)), True), (STEP_TEXT, both, ((0, 1), (4, 1)), True),
            (STEP_TEXT, both, ((2, 1), (4, 1)), False), (STEP_TEXT, both, ((0, 1), (17, 4)), False),
            (STEP_TEXT, both, ((199, 100), (2, 1)), True), (STEP_TEXT, both, ((-1, 1), (2, 1)), False),
            ("degree 1 knots 0 2 2", ((5, 1),), ((2, 1),), True), ("degree 1 knots 0 2 2", ((5, 1),), ((9, 4),), False),
            (tent, ((5, 1), (-1, 1)), ((199, 100), (2, 1)), True), (tent, ((5, 1), (1, 1)), ((2, 1),), True),
            (tent, ((5, 1), (0, 1)), ((2, 1),), False), (tent, ((5, 1), (0, 1)), ((199, 100),), True),
            (BOW_TEXT, ((0, 1), (0, 1), (-3, 1)), ((4, 1),), True),
            (BOW_TEXT, ((0, 1), (2, 1), (0, 1)), ((4, 1),), False),
        ):
            with self.subTest(text=text, amounts=amounts, paper=paper):
                self.check_answer(("turns", text, amounts, len(paper)), paper, told)
                turned = tuple((-top, bottom) for top, bottom in amounts)
                self.check_answer(("turns", text, turned, len(paper)), paper, told)

    def test_numbers_without_end(self):
        frame = WIDE[6]
        amounts = tuple((number * 10 ** 300 + 1, 10 ** 299 + 7) for number in (1, -2, 3, -4, 5))
        self.check_as_worked_out(("turns", frame.text, amounts, 1), ((7 ** 300, 3 ** 400),))
        self.check_answer(("rank", RAMP_TEXT, (1, 5), 10 ** 2000), ((0, 0), (1, 1)), False)
        self.check_answer(("below", RAMP_TEXT, (1, 5), 10 ** 2000), (), True)
        self.check_answer(("never", RAMP_TEXT, (1, 2), (1, 1)), (2 * 10 ** 900, -10 ** 900), True)

    def test_frames_of_each_degree(self):
        for frame in (*FRAMES, *WIDE):
            near = tuple(places_near(frame)[:12])
            zeros, ones = ((0, 1),) * frame.hills, ((1, 1),) * frame.hills
            with self.subTest(frame=frame.text):
                self.check_answer(("through", frame.text, near, (0,) * len(near)), zeros, True)
                self.check_answer(("through", frame.text, near, (0,) * len(near)), ones, False)
                for at in range(len(near)):
                    row = tuple(int(at == other) for other in range(len(near)))
                    for claim in (("never", frame.text, near, row), ("below", frame.text, near, len(near) - 1)):
                        self.check_as_worked_out(claim, row)
                        self.check_as_worked_out(claim, (row,))
                    for hill in range(frame.hills):
                        self.check_as_worked_out(("rank", frame.text, near, 1), ((hill, at),))
                    self.check_as_worked_out(("turns", frame.text, ones, 1), ((near[at], 1),))
                    self.check_as_worked_out(("turns", frame.text, ones, 1), ((2 * near[at] + 1, 2),))

    def test_calls_change_nothing(self):
        for claim, paper in RIGHT:
            self.assertEqual([accepts(claim, paper), accepts(claim, paper)], [True, True])
        self.assertEqual(Frame.read(BOW_TEXT), BOW)


if __name__ == "__main__":
    unittest.main()
