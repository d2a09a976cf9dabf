"""The section `bentthrough/frames.py` of the document, and [6]."""

import unittest

from anything import NO_FRAMES, NO_INTEGERS, NO_STRINGS, NO_TUPLES, Stranger, check_given, check_index
from bentthrough import frames
from bentthrough.errors import InvalidDegree, InvalidKnots, InvalidText, NotAFrame
from bentthrough.frames import Frame, stretches, within
from examples import check_examples

EXAMPLES = """
>>> from bentthrough.frames import Frame, stretches, within
>>> ramp, bow = Frame(1, (0, 2, 4, 6)), Frame.read("degree 2 knots 0 0 0 4 4 4")
>>> [ramp.hills, bow.hills, ramp.text, repr(bow), stretches(bow), stretches(ramp), within(ramp, Frame(1, (0, 2, 3, 4, 6))), within(bow, ramp)]
[2, 3, 'degree 1 knots 0 2 4 6', 'Frame of 3 hills', ((0, 4),), ((0, 2), (2, 4), (4, 6)), True, False]
>>> Frame(1, (0, 3, 3, 3))
raises InvalidKnots(index=3)
"""

# Each row: degree, knots, hills, text.
RIGHT = (
    (0, (0, 1), 1, "degree 0 knots 0 1"),
    (0, (0, 1000000), 1, "degree 0 knots 0 1000000"),
    (0, (999999, 1000000), 1, "degree 0 knots 999999 1000000"),
    (0, (0, 1, 2, 3, 4, 5, 6, 7, 8, 9, 10), 10, "degree 0 knots 0 1 2 3 4 5 6 7 8 9 10"),
    (1, (0, 2, 4, 6), 2, "degree 1 knots 0 2 4 6"),
    (1, (0, 0, 1), 1, "degree 1 knots 0 0 1"),
    (1, (3, 5, 5), 1, "degree 1 knots 3 5 5"),
    (1, (0, 0, 1, 1, 20, 20, 300, 300, 1000000, 1000000), 8,
     "degree 1 knots 0 0 1 1 20 20 300 300 1000000 1000000"),
    (1, (7, 7, 10, 11, 12, 13, 14, 15, 16, 17, 18, 18), 10,
     "degree 1 knots 7 7 10 11 12 13 14 15 16 17 18 18"),
    (2, (0, 0, 0, 4, 4, 4), 3, "degree 2 knots 0 0 0 4 4 4"),
    (2, (1, 1, 1, 1000000), 1, "degree 2 knots 1 1 1 1000000"),
    (2, (0, 0, 0, 1, 1, 1, 2, 2, 2, 3, 3, 3, 1000000), 10,
     "degree 2 knots 0 0 0 1 1 1 2 2 2 3 3 3 1000000"),
    (3, (0, 0, 0, 0, 1000000), 1, "degree 3 knots 0 0 0 0 1000000"),
    (3, (5, 6, 7, 8, 9), 1, "degree 3 knots 5 6 7 8 9"),
    (3, (0, 1, 2, 3, 4, 5, 6, 7, 8, 9, 1000000, 1000000, 1000000, 1000000), 10,
     "degree 3 knots 0 1 2 3 4 5 6 7 8 9 1000000 1000000 1000000 1000000"),
    (4, (0, 0, 0, 0, 0, 1000000), 1, "degree 4 knots 0 0 0 0 0 1000000"),
    (4, (0, 0, 0, 0, 0, 8, 8, 8, 8, 8), 5, "degree 4 knots 0 0 0 0 0 8 8 8 8 8"),
    (4, (1, 1, 1, 1, 1, 2, 2, 2, 2, 2, 3, 3, 3, 3, 3), 10, "degree 4 knots 1 1 1 1 1 2 2 2 2 2 3 3 3 3 3"),
)

# Each row: degree, knots, the index that InvalidKnots has.
WRONG_KNOTS = (
    # too few
    (0, (), None), (0, (5,), None), (1, (0, 2), None), (2, (0, 1, 2), None), (3, (0, 1, 2, 3), None),
    (4, (), None), (4, (0, 1, 2, 3, 4), None),
    # one too many, and more
    (0, tuple(range(12)), 11), (1, tuple(range(13)), 12), (2, tuple(range(14)), 13), (3, tuple(range(15)), 14),
    (4, tuple(range(16)), 15), (0, tuple(range(40)), 11), (4, tuple(range(100)), 15),
    # no integers and integers out of bounds
    (1, (-1, 0, 1), 0), (1, (0, -1, 1), 1), (1, (0, 1, 1000001), 2), (0, (1000001, 1000002), 0),
    (2, (0, 1, 2, 10 ** 59), 3), (2, (-10 ** 59, 1, 2, 3), 0), (1, (0, 1, True, 2), 2), (1, (False, 1, 2), 0),
    (1, (0, True, 2), 1), (0, (0, True), 1), (1, (0, "2", 4), 1), (1, (None, 2, 4), 0), (1, (0, 2, (4,)), 2),
    # less than the one before it
    (0, (1, 0), 1), (1, (5, 4, 6), 1), (2, (1, 0, 2, 3), 1), (4, (9, 8, 9, 9, 9, 9), 1), (1, (0, 5, 4, 6), 2),
    (1, (0, 2, 4, 3), 3), (4, (0, 0, 0, 0, 0, 9, 9, 8), 7),
    # more than degree + 1 alike
    (0, (0, 0), 1), (0, (0, 1, 1), 2), (1, (0, 0, 0), 2), (1, (0, 3, 3, 3), 3), (1, (0, 1, 1, 2, 2, 2), 5),
    (2, (1, 1, 1, 1), 3), (2, (0, 4, 4, 4, 4, 5), 4), (3, (9, 9, 9, 9, 9), 4), (4, (2, 2, 2, 2, 2, 2), 5),
    (4, (0, 2, 2, 2, 2, 2, 2), 6), (4, (1000000,) * 15, 5),
)

# Each row has two things wrong: degree, knots, the index that InvalidKnots has.
TWICE_WRONG_KNOTS = (
    # a wrong number is asked ahead of the elements
    (1, ("x", -1), None), (4, (5, 4, 3, 2, 1), None), (2, (0, 0, None), None),
    # the first wrong one counts
    (1, (0, 5, 4, "x"), 2), (1, (0, "x", 5, 4), 1), (1, (3, 3, 3, -1), 2), (1, (0, 1000001, 5), 1),
    (0, (*range(11), None), 11), (0, (*range(10), None, 11, 12), 10), (0, (*range(11), 10), 11),
    (1, (0, 0, 0, *range(40)), 2), (2, (*range(13), 12, -1), 13), (0, (1, 0, *range(20)), 1),
)

# Right knots for degree 1.
ROW = (0, 2, 4, 6)

WRONG_TEXTS = (
    "", " ", "  ", "degree", "degree ", "degree 1", "degree 1 ", "degree 1 knots", "degree 1 knots ", "knots",
    "0 2 4 6", "1 0 2 4 6", "degree knots 0 2 4 6", "degree 1 0 2 4 6", "knots 0 2 4 6 degree 1",
    # spaces
    " degree 1 knots 0 2 4 6", "degree 1 knots 0 2 4 6 ", "degree  1 knots 0 2 4 6", "degree 1  knots 0 2 4 6",
    "degree 1 knots  0 2 4 6", "degree 1 knots 0  2 4 6", "degree 1 knots 0 2 4  6", "degree1 knots 0 2 4 6",
    "degree 1knots 0 2 4 6", "degree 1 knots0 2 4 6", "degree 1 knots 0 2 4\t6", "\tdegree 1 knots 0 2 4 6",
    "degree\t1 knots 0 2 4 6", "degree 1 knots 0 2 4 6\n", "\ndegree 1 knots 0 2 4 6", "degree 1 knots 0 2\n4 6",
    "degree\n1\nknots\n0\n2\n4\n6", "degree 1 knots 0 2 4 6\r", "degree 1 knots 0 2 4 6 \n",
    # words and letters
    "Degree 1 knots 0 2 4 6", "degree 1 Knots 0 2 4 6", "DEGREE 1 KNOTS 0 2 4 6", "degrees 1 knots 0 2 4 6",
    "degree 1 knot 0 2 4 6", "degree 1 hills 0 2 4 6", "degree 1 knots 0 2 4 x", "degree x knots 0 2 4 6",
    "degree one knots 0 2 4 6", "degree 1 knots 0 2 4 6 and", "degree 1 knots 0, 2, 4, 6", "degree 1 knots 0 2 4 6.",
    "degree 1: knots 0 2 4 6", "(degree 1 knots 0 2 4 6)", "degree 1 knots 0 2 4 6x", "degree 1 knots 0 2 4 0x6",
    # numbers
    "degree 01 knots 0 2 4 6", "degree 1 knots 00 2 4 6", "degree 1 knots 0 02 4 6", "degree 1 knots 0 2 4 006",
    "degree +1 knots 0 2 4 6", "degree -1 knots 0 2 4 6", "degree 1 knots +0 2 4 6", "degree 1 knots -0 2 4 6",
    "degree 1 knots 0 2 4 +6", "degree 1 knots -1 2 4 6", "degree 1 knots 0 2 4 6_0", "degree 1 knots 0 2 4 6.0",
    "degree 1 knots 0 2 4 1e3", "degree 1 knots 0 2 4 1000001", "degree 1 knots 0 2 4 0000006",
    "degree 1 knots 0 2 4 1" + "0" * 7, "degree 1 knots 0 2 4 " + "9" * 60, "degree 1 knots 0 2 4 " + "9" * 7900,
    "degree 1 knots 0 2 4 " + "0" * 7900, "degree " + "9" * 7900 + " knots 0 2 4 6", "9" * 7999,
    # frames that are none
    "degree 5 knots 0 1 2 3 4 5 6", "degree 1000000 knots 0 2 4 6", "degree 1 knots 0 2", "degree 0 knots 0",
    "degree 4 knots 0 1 2 3 4", "degree 0 knots 0 1 2 3 4 5 6 7 8 9 10 11", "degree 1 knots 0 2 6 4",
    "degree 1 knots 0 3 3 3", "degree 0 knots 5 5", "degree 4 knots 2 2 2 2 2 2",
    "degree 1 knots" + " 1" * 3900, "degree 1 knots 0 2 4 6degree 1 knots 0 2 4 6",
    "degree 1 knots 0 2 4 6 degree 1 knots 0 2 4 6", "degree 1 knots 0 2 4 6\ndegree 1 knots 0 2 4 6",
)

RAMP = Frame(1, (0, 2, 4, 6))
BOW = Frame(2, (0, 0, 0, 4, 4, 4))


class ExamplesTest(unittest.TestCase):
    def test_examples_of_the_document(self):
        names = check_examples(self, EXAMPLES)
        self.assertEqual(names["ramp"], RAMP)

    def test_all_is_defined_in_its_file(self):
        for name in ("Frame", "stretches", "within"):
            self.assertEqual(getattr(frames, name).__module__, "bentthrough.frames")
        for name in ("__init__", "read", "degree", "knots", "hills", "text", "__eq__", "__str__", "__repr__"):
            self.assertIn(name, vars(Frame))


class RightFramesTest(unittest.TestCase):
    def check_frame(self, frame, degree, knots, hills, text):
        self.assertEqual((frame.degree, frame.knots, frame.hills, frame.text), (degree, knots, hills, text))
        self.assertEqual((str(frame), repr(frame)), (text, f"Frame of {hills} hills"))
        self.assertEqual((frame.text.__class__, frame.hills.__class__), (str, int))
        self.assertTrue(frame)

    def test_by_position_and_by_name(self):
        for degree, knots, hills, text in RIGHT:
            with self.subTest(text=text):
                for frame in (Frame(degree, knots), Frame(degree=degree, knots=knots), Frame(degree, knots=knots),
                              Frame(knots=knots, degree=degree)):
                    self.check_frame(frame, degree, knots, hills, text)
                    self.assertIs(frame.degree, degree)
                    self.assertIs(frame.knots, knots)

    def test_read(self):
        for degree, knots, hills, text in RIGHT:
            with self.subTest(text=text):
                for frame in (Frame.read(text), Frame.read(text=text), Frame.read(Frame(degree, knots).text)):
                    self.check_frame(frame, degree, knots, hills, text)
                    self.assertIs(frame.knots.__class__, tuple)
                    self.assertEqual({part.__class__ for part in (frame.degree, *frame.knots)}, {int})

    def test_all_numbers_of_knots_of_all_degrees(self):
        for degree in range(5):
            for many in range(degree + 2, degree + 12):
                with self.subTest(degree=degree, many=many):
                    apart = Frame(degree, tuple(range(10 ** 6 - many + 1, 10 ** 6 + 1)))
                    self.assertEqual(apart.hills, many - degree - 1)
                    alike = Frame(degree, tuple(index // (degree + 1) for index in range(many)))
                    self.assertEqual(alike.hills, many - degree - 1)
                    self.assertEqual(Frame.read(alike.text), alike)


class WrongFramesTest(unittest.TestCase):
    def check_knots(self, degree, knots, index):
        check_index(self, InvalidKnots, index, lambda: Frame(degree, knots))
        check_index(self, InvalidKnots, index, lambda: Frame(degree=degree, knots=knots))

    def test_wrong_degrees(self):
        for degree in (*NO_INTEGERS, -1, 5, -10 ** 59, 10 ** 59, 6, 1000000):
            with self.subTest(degree=degree):
                check_given(self, InvalidDegree, degree, lambda: Frame(degree, ROW))
                check_given(self, InvalidDegree, degree, lambda: Frame(knots=ROW, degree=degree))

    def test_knots_that_are_no_tuple(self):
        for knots in NO_TUPLES:
            for degree in range(5):
                with self.subTest(degree=degree, knots=knots):
                    self.check_knots(degree, knots, None)

    def test_wrong_knots(self):
        for degree, knots, index in WRONG_KNOTS:
            with self.subTest(degree=degree, knots=knots):
                self.check_knots(degree, knots, index)

    def test_wrong_elements_at_each_index(self):
        for index in range(len(ROW)):
            for element in (*NO_INTEGERS, -1, 1000001, -10 ** 59, 10 ** 59):
                knots = (*ROW[:index], element, *ROW[index + 1:])
                with self.subTest(knots=knots):
                    self.check_knots(1, knots, index)

    def test_one_too_many_of_all_degrees(self):
        for degree in range(5):
            with self.subTest(degree=degree):
                self.check_knots(degree, tuple(range(degree + 12)), degree + 11)
                self.check_knots(degree, tuple(range(degree + 1)), None)
                self.check_knots(degree, (7,) * (degree + 2), degree + 1)
                self.check_knots(degree, (3,) + (7,) * (degree + 2), degree + 2)

    def test_order_of_the_errors(self):
        for degree, knots, index in TWICE_WRONG_KNOTS:
            with self.subTest(degree=degree, knots=knots):
                self.check_knots(degree, knots, index)

    def test_degree_ahead_of_knots(self):
        for degree in (-1, 5, None, True, "1", [1]):
            for knots in (None, [0, 2], (), (0,), ("x", "y", "z"), (3, 2, 1), 5):
                with self.subTest(degree=degree, knots=knots):
                    check_given(self, InvalidDegree, degree, lambda: Frame(degree, knots))
                    check_given(self, InvalidDegree, degree, lambda: Frame(knots=knots, degree=degree))

    def test_changes_nothing_that_is_passed(self):
        degree, knots, inner = [1], [0, 2, 4], [5]
        for action in (lambda: Frame(degree, ROW), lambda: Frame(1, knots), lambda: Frame(1, (0, 2, inner))):
            with self.assertRaises(ValueError):
                action()
        self.assertEqual((degree, knots, inner), ([1], [0, 2, 4], [5]))


class ReadTest(unittest.TestCase):
    def check_text(self, text):
        check_given(self, InvalidText, text, lambda: Frame.read(text))
        check_given(self, InvalidText, text, lambda: Frame.read(text=text))

    def test_wrong_texts(self):
        for text in WRONG_TEXTS:
            with self.subTest(text=text[:60]):
                self.check_text(text)

    def test_no_strings(self):
        for text in NO_STRINGS:
            with self.subTest(text=text):
                self.check_text(text)

    def test_one_sign_more(self):
        for text in ("degree 1 knots 0 2 4 6", "degree 4 knots 0 0 0 0 0 1000000"):
            for index in range(len(text) + 1):
                for sign in (" ", "-", "+", "_", "x", ",", "\n"):
                    self.check_text(text[:index] + sign + text[index:])

    def test_one_letter_less(self):
        text = "degree 1 knots 0 2 4 6"
        for index in range(len(text)):
            if text[index].isalpha():
                self.check_text(text[:index] + text[index + 1:])

    def test_reads_its_own_texts_alone(self):
        text = "degree 1 knots 0 2 4 6"
        for index in range(len(text)):
            for sign in " 0123456789dk":
                changed = text[:index] + sign + text[index + 1:]
                try:
                    frame = Frame.read(changed)
                except InvalidText as error:
                    self.assertIs(error.given, changed)
                else:
                    self.assertEqual(frame.text, changed)


class EqualTest(unittest.TestCase):
    def check_equal(self, left, right, equal):
        self.assertIs(left == right, equal)
        self.assertIs(right == left, equal)
        self.assertIs(left != right, not equal)
        self.assertIs(right != left, not equal)

    def test_equal_exactly_if_the_texts_are(self):
        for degree, knots, _, text in RIGHT:
            for other_degree, other_knots, _, other_text in RIGHT:
                with self.subTest(text=text, other=other_text):
                    self.check_equal(Frame(degree, knots), Frame(other_degree, other_knots), text == other_text)
            self.check_equal(Frame(degree, knots), Frame.read(text), True)

    def test_an_object_equals_itself(self):
        self.check_equal(RAMP, RAMP, True)

    def test_alike_but_for_the_degree_or_a_knot(self):
        self.check_equal(RAMP, Frame(2, (0, 2, 4, 6)), False)
        self.check_equal(RAMP, Frame(1, (0, 2, 4)), False)
        self.check_equal(RAMP, Frame(1, (0, 2, 4, 7)), False)
        self.check_equal(RAMP, Frame(1, (1, 2, 4, 6)), False)
        self.check_equal(RAMP, Frame(1, (0, 2, 4, 6, 8)), False)
        self.check_equal(Frame(1, (0, 2, 2, 4)), Frame(1, (0, 2, 4, 4)), False)

    def test_other_kinds_are_never_equal(self):
        for thing in NO_FRAMES:
            if isinstance(thing, Stranger):
                continue
            with self.subTest(thing=thing):
                self.check_equal(RAMP, thing, False)
        self.assertIs(RAMP == Stranger(), False)
        self.assertIs(RAMP != Stranger(), True)


class StretchesTest(unittest.TestCase):
    def test_knots_alike_and_apart(self):
        for degree, knots, pairs in (
            (1, (0, 2, 4, 6), ((0, 2), (2, 4), (4, 6))),
            (2, (0, 0, 0, 4, 4, 4), ((0, 4),)),
            (0, (0, 1000000), ((0, 1000000),)),
            (0, (3, 4, 9), ((3, 4), (4, 9))),
            (1, (0, 0, 1), ((0, 1),)),
            (1, (0, 1, 1), ((0, 1),)),
            (2, (1, 1, 5, 5, 5, 7, 8, 8), ((1, 5), (5, 7), (7, 8))),
            (4, (1, 1, 1, 1, 1, 2, 2, 2, 2, 2, 3, 3, 3, 3, 3), ((1, 2), (2, 3))),
        ):
            with self.subTest(knots=knots):
                self.assertEqual(stretches(Frame(degree, knots)), pairs)
                self.assertEqual(stretches(frame=Frame(degree, knots)), pairs)
                self.assertEqual({pair.__class__ for pair in stretches(Frame(degree, knots))}, {tuple})

    def test_no_frames(self):
        for frame in NO_FRAMES:
            with self.subTest(frame=frame):
                check_given(self, NotAFrame, frame, lambda: stretches(frame))
                check_given(self, NotAFrame, frame, lambda: stretches(frame=frame))


class WithinTest(unittest.TestCase):
    def check_within(self, frame, other, inside):
        self.assertIs(within(frame, other), inside)
        self.assertIs(within(frame=frame, other=other), inside)
        self.assertIs(within(other=other, frame=frame), inside)

    def test_each_frame_is_within_itself(self):
        for degree, knots, _, text in RIGHT:
            with self.subTest(text=text):
                self.check_within(Frame(degree, knots), Frame.read(text), True)

    def test_through_a_third_one(self):
        first, second, third = Frame(1, (0, 2, 4)), Frame(1, (0, 2, 4, 6)), Frame(1, (0, 1, 2, 4, 4, 6))
        self.check_within(first, second, True)
        self.check_within(second, third, True)
        self.check_within(first, third, True)
        self.check_within(third, second, False)
        self.check_within(third, first, False)
        self.check_within(second, first, False)

    def test_knots_more_less_and_moved(self):
        for knots, inside in (
            ((0, 2, 3, 4, 6), True), ((0, 2, 4, 6, 9), True), ((0, 0, 2, 4, 6), True), ((0, 2, 4, 4, 6), True),
            ((0, 2, 4), False), ((0, 4, 6), False), ((0, 2, 6), False), ((2, 4, 6), False), ((0, 4, 4, 6), False),
            ((0, 2, 4, 7), False), ((0, 3, 4, 6), False), ((1, 2, 4, 6), False), ((0, 1, 3, 4, 5, 6), False),
        ):
            with self.subTest(knots=knots):
                self.check_within(RAMP, Frame(1, knots), inside)

    def test_knots_are_counted(self):
        twice, once = Frame(1, (0, 2, 2, 4)), Frame(1, (0, 1, 2, 4))
        self.check_within(twice, once, False)
        self.check_within(once, twice, False)
        self.check_within(Frame(1, (0, 2, 4)), twice, True)
        self.check_within(twice, Frame(1, (0, 1, 2, 2, 4)), True)
        self.check_within(BOW, Frame(2, (0, 0, 0, 2, 4, 4, 4)), True)
        self.check_within(BOW, Frame(2, (0, 0, 4, 4, 4)), False)
        self.check_within(Frame(2, (0, 0, 4, 4)), BOW, True)

    def test_other_degrees(self):
        for degree in (0, 2):
            self.check_within(RAMP, Frame(degree, (0, 2, 4, 6)), False)
            self.check_within(Frame(degree, (0, 2, 4, 6)), RAMP, False)
        self.check_within(RAMP, Frame(2, (0, 0, 2, 2, 4, 4, 6, 6)), False)
        self.check_within(BOW, RAMP, False)

    def test_no_frames(self):
        for thing in NO_FRAMES:
            with self.subTest(thing=thing):
                check_given(self, NotAFrame, thing, lambda: within(thing, RAMP))
                check_given(self, NotAFrame, thing, lambda: within(RAMP, thing))
                check_given(self, NotAFrame, thing, lambda: within(other=RAMP, frame=thing))
                check_given(self, NotAFrame, thing, lambda: within(other=thing, frame=RAMP))

    def test_frame_ahead_of_other(self):
        frame, other = ["frame"], ["other"]
        check_given(self, NotAFrame, frame, lambda: within(frame, other))
        check_given(self, NotAFrame, frame, lambda: within(other=other, frame=frame))
        check_given(self, NotAFrame, other, lambda: within(BOW, other))


if __name__ == "__main__":
    unittest.main()
