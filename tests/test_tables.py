"""The section `bentthrough/tables.py` of the document."""

import unittest
from fractions import Fraction
from itertools import product
from math import lcm

from anything import NO_TUPLES
from at_hand import BOW, FRAMES, RAMP, WIDE, places_near
from bentthrough import tables
from bentthrough.errors import InvalidAmounts, InvalidHeights, InvalidPlaces
from bentthrough.frames import Frame
from bentthrough.tables import table_met, table_through, table_value
from examples import check_examples
from reckoned import hill_value, pair, rows_rank, table, table_rank
from wrongs import FRAMES as NO_FRAME_ROWS
from wrongs import NO_FRACTIONS, NO_HEIGHT, PLACE, PLACES, check_error, check_ways, check_wrong, elements, index

EXAMPLES = """
>>> from bentthrough.tables import table_met, table_through, table_value
>>> [table_met(ramp, (1, 5), ramp, (1, 5)), table_met(ramp, (1, 5), ramp, (1, 2)), table_through(ramp, (1, 5), ramp, (1, 5), ((1, 2), (3, 4)))]
[True, False, (((4, 1), (8, 1)), ((12, 1), (16, 1)))]
>>> [table_value(ramp, ramp, (((4, 1), (8, 1)), ((12, 1), (16, 1))), 3, 3), table_through(ramp, (1,), ramp, (1, 2), ((1, 1),))]
[(10, 1), None]
"""
GREAT = 10 ** 20
STEP = Frame(0, (0, 2, 4, 5))

# Pairs of frames with their places; the frames of most pairs have unlike numbers of hills.
PAIRS = tuple(
    (frame, tuple(places_near(frame)[start:start + many:step]), other, tuple(places_near(other)[begin:begin + more]))
    for frame, other, (start, many, step), (begin, more) in zip(
        (RAMP, BOW, STEP, *FRAMES[5:30:3], *WIDE[:3]), (BOW, STEP, RAMP, *FRAMES[28:4:-3], *WIDE[-3:]),
        ((0, 3, 1), (1, 4, 2), (2, 2, 1), (1, 1, 1), (0, 6, 2), (2, 5, 1)) * 3, ((1, 2), (0, 3), (2, 1), (1, 4)) * 4)
) + (
    (RAMP, (1, 5), BOW, (0, 2, 4)), (BOW, (0, 2, 4), RAMP, (1, 5)), (RAMP, (1, 3), RAMP, (2, 5)),
    (RAMP, (3,), STEP, (1, 2, 5)), (STEP, (1, 3, 5), BOW, (0, 1, 2, 3, 4)), (RAMP, (7,), BOW, (1,)),
    (RAMP, (1, 2), RAMP, (1, 5)), (BOW, (9,), STEP, (9,)),
)


def whole_table(frame, places, other, others):
    """The products of all pairs of hills, a row for each pair of places."""
    rows, columns = table(frame, places), table(other, others)
    return [[one * two for one in row for two in column] for row in rows for column in columns]


def whole(parts):
    """The fractions times one number that makes them integers."""
    common = lcm(*[part.denominator for part in parts])
    return [int(common * part) for part in parts]


def value_of(frame, other, amounts, x, y):
    """The value of a table curve, as the sum over all pairs of hills."""
    return sum((Fraction(*amounts[hill][bump]) * hill_value(frame, hill, x) * hill_value(other, bump, y)
                for hill in range(frame.hills) for bump in range(other.hills)), Fraction(0))


def some_amounts(frame, other, start=0):
    """Rows of amounts, no two columns alike."""
    return tuple(tuple(pair(Fraction((3 * hill * hill + 5 * bump + start) % 13 - 6, (hill + 2 * bump + start) % 4 + 1))
                       for bump in range(other.hills))
                 for hill in range(frame.hills))


def some_tables(frame, places, other, others):
    """Tables of a table curve, as far as its values are integers, and others."""
    for start in (0, 4):
        amounts = some_amounts(frame, other, start)
        values = [[value_of(frame, other, amounts, place, spot) for spot in others] for place in places]
        common = lcm(*[part.denominator for row in values for part in row])
        if common * max(abs(part) for row in values for part in row) <= GREAT:
            yield tuple(tuple(int(common * part) for part in row) for row in values)
    yield tuple(tuple((5 * row * row + 3 * column) % 7 - 3 for column in range(len(others)))
                for row in range(len(places)))
    yield tuple((GREAT,) * len(others) if row % 2 else (-GREAT,) * len(others) for row in range(len(places)))
    yield ((0,) * len(others),) * len(places)


class ExamplesTest(unittest.TestCase):
    def test_examples_of_the_document(self):
        check_examples(self, EXAMPLES, {"ramp": RAMP})

    def test_all_is_defined_in_its_file(self):
        for name in ("table_met", "table_through", "table_value"):
            self.assertEqual(getattr(tables, name).__module__, "bentthrough.tables")


class MetTest(unittest.TestCase):
    def check_met(self, frame, places, other, others):
        arguments = {"frame": frame, "places": places, "other": other, "others": others}
        told = check_ways(self, table_met, arguments)
        self.assertIs(told, table_rank(frame, places) == len(places) and table_rank(other, others) == len(others))
        if len(places) * len(others) <= 12:
            self.assertIs(told, rows_rank(whole_table(frame, places, other, others)) == len(places) * len(others))

    def test_pairs_of_frames(self):
        found = []
        for frame, places, other, others in PAIRS:
            with self.subTest(frame=frame.text, places=places, other=other.text, others=others):
                self.check_met(frame, places, other, others)
                found.append(table_met(frame, places, other, others))
        self.assertEqual(set(found), {True, False})

    def test_one_way_alone_is_not_enough(self):
        for places, others, told in (((1, 5), (0, 2, 4), True), ((1, 2), (0, 2, 4), False), ((1, 5), (0, 5), False),
                                     ((1, 2), (5, 6), False), ((1,), (0, 1, 2, 3), False), ((3,), (3,), True)):
            self.assertIs(table_met(RAMP, places, BOW, others), told)
            self.assertIs(table_met(BOW, others, RAMP, places), told)


class ThroughTest(unittest.TestCase):
    def check_through(self, frame, places, other, others, heights):
        """Whether there is a table curve, which goes through all heights then."""
        arguments = {"frame": frame, "places": places, "other": other, "others": others, "table": heights}
        found = check_ways(self, table_through, arguments)
        rows = whole_table(frame, places, other, others)
        aims = [Fraction(height) for row in heights for height in row]
        if len(aims) <= 12:
            met = rows_rank([[*row, aim] for row, aim in zip(rows, aims)]) == rows_rank(rows)
            self.assertIs(found is not None, met)
        if found is None:
            return False
        self.assertEqual([(row.__class__, len(row)) for row in (found, *found)],
                         [(tuple, frame.hills)] + [(tuple, other.hills)] * frame.hills)
        for row in found:
            self.assertEqual(row, tuple(pair(Fraction(*amount)) for amount in row))
        for (place, row), (at, spot) in product(zip(places, heights), enumerate(others)):
            self.assertEqual(value_of(frame, other, found, place, spot), row[at])
            self.assertEqual(table_value(frame, other, found, place, spot), (row[at], 1))
        return True

    def test_pairs_of_frames(self):
        counts = {True: 0, False: 0}
        for frame, places, other, others in PAIRS:
            for heights in some_tables(frame, places, other, others):
                with self.subTest(frame=frame.text, places=places, other=other.text, others=others, heights=heights):
                    counts[self.check_through(frame, places, other, others, heights)] += 1
        self.assertGreater(min(counts.values()), 15)

    def test_sums_of_products_always_have_one(self):
        for frame, places, other, others in PAIRS:
            rows, columns = table(frame, places), table(other, others)
            for hill, bump in ((0, 0), (frame.hills - 1, 0), (0, other.hills - 1)):
                left = whole([row[hill] for row in rows])
                right = whole([column[bump] for column in columns])
                heights = tuple(tuple(one * two for two in right) for one in left)
                if max(abs(height) for row in heights for height in row) <= GREAT:
                    self.assertTrue(self.check_through(frame, places, other, others, heights))

    def test_one_place_in_one_way_and_several_in_the_other(self):
        for places, others, heights, told in (
            ((1,), (1, 2), ((1, 1),), False), ((1,), (1, 2), ((1, 2),), True), ((1,), (1, 2, 5), ((3, 6, -4),), True),
            ((1, 2), (1,), ((1,), (1,)), False), ((1, 2), (1,), ((1,), (2,)), True), ((7,), (1, 5), ((0, 0),), True),
            ((7,), (1, 5), ((0, 1),), False), ((1, 5), (7,), ((0,), (0,)), True), ((1, 5), (7,), ((0,), (1,)), False),
            ((3,), (3,), ((GREAT,),), True),
        ):
            with self.subTest(places=places, others=others, heights=heights):
                self.assertIs(self.check_through(RAMP, places, RAMP, others, heights), told)

    def test_rows_and_columns_are_not_mixed_up(self):
        heights = ((1, 2, 3), (4, 5, 7))
        turned = tuple(zip(*heights))
        one = table_through(RAMP, (1, 5), BOW, (0, 2, 4), heights)
        other = table_through(BOW, (0, 2, 4), RAMP, (1, 5), turned)
        self.assertEqual((len(one), len(other)), (2, 3))
        self.assertEqual(tuple(zip(*other)), one)
        self.assertTrue(self.check_through(RAMP, (1, 5), BOW, (0, 2, 4), heights))
        # More columns than the other frame has hills, each of which is met by the first frame.
        self.assertFalse(self.check_through(BOW, (0, 2), RAMP, (1, 3, 5), ((1, 0, 0), (0, 0, 1))))
        self.assertFalse(self.check_through(RAMP, (1, 3, 5), BOW, (0, 2), ((1, 0), (0, 0), (0, 1))))

    def test_many_places(self):
        frame, other = FRAMES[-1], Frame(4, (1, 1, 1, 1, 1, 2, 2, 2, 2, 2, 6, 6, 6, 6, 6))
        places, others = (2, 4, 5, 7, 8, 10, 11, 13, 15, 17), tuple(range(12))
        heights = tuple(tuple((row * column) % 5 if 1 <= column <= 2 else 0 for column in others) for row in range(10))
        self.assertTrue(self.check_through(frame, places, other, others, heights))
        self.assertTrue(self.check_through(other, others, frame, places, tuple(zip(*heights))))
        self.assertFalse(self.check_through(frame, places, other, others, ((1,) * 12,) * 10))


class ValueTest(unittest.TestCase):
    def test_sums_over_all_pairs_of_hills(self):
        for number, (frame, _, other, _) in enumerate(PAIRS):
            amounts = some_amounts(frame, other, number)
            for place, spot in product(places_near(frame)[::3], places_near(other)[::4]):
                with self.subTest(frame=frame.text, other=other.text, place=place, spot=spot):
                    arguments = {"frame": frame, "other": other, "amounts": amounts, "place": place, "spot": spot}
                    self.assertEqual(check_ways(self, table_value, arguments),
                                     pair(value_of(frame, other, amounts, place, spot)))

    def test_by_hand(self):
        amounts = (((1, 1), (2, 1), (3, 1)), ((5, 1), (7, 1), (11, 2)))
        self.assertEqual(table_value(RAMP, BOW, amounts, 2, 0), (1, 1))
        self.assertEqual(table_value(RAMP, BOW, amounts, 4, 4), (11, 2))
        self.assertEqual(table_value(RAMP, BOW, amounts, 1, 4), (3, 2))
        self.assertEqual(table_value(RAMP, BOW, amounts, 6, 2), (0, 1))
        self.assertEqual(table_value(RAMP, BOW, amounts, 2, 5), (0, 1))
        self.assertEqual(table_value(RAMP, BOW, amounts, 3, 0), (3, 1))


class ArgumentsTest(unittest.TestCase):
    def row_rows(self, error_class, many, row, things):
        """Wrong tables of so many rows: no tuples, a wrong number of rows, and wrong rows at different indexes."""
        no_rows = [*NO_TUPLES, (), row[:-1], (*row, row[-1]), row * 9, list(row)]
        no_rows += [wrong for wrong, _ in elements(row, things)]
        pairs = [(thing, None) for thing in NO_TUPLES]
        pairs += [((), None), ((row,) * (many - 1), None), ((row,) * (many + 1), None), ((row,) * 30, None),
                  ((None,) * (many + 1), None), ((None,) * (many - 1), None)]
        pairs += elements((row,) * many, no_rows)
        pairs += [((row,) * at + (None,) * (many - at), at) for at in range(many)]
        return index(error_class, pairs)

    def test_wrong_arguments_of_table_met(self):
        right = {"frame": RAMP, "places": (1, 5), "other": BOW, "others": (0, 2, 4)}
        wrong = {"frame": NO_FRAME_ROWS, "places": PLACES, "other": NO_FRAME_ROWS, "others": PLACES}
        check_wrong(self, table_met, right, wrong)
        check_wrong(self, table_met, {**right, "places": (1, 2)}, {"other": NO_FRAME_ROWS, "others": PLACES})

    def test_wrong_arguments_of_table_through(self):
        right = {"frame": RAMP, "places": (1, 5), "other": BOW, "others": (0, 2, 4), "table": ((1, 2, 3), (4, 5, 7))}
        rows = self.row_rows(InvalidHeights, 2, (1, 2, 3), NO_HEIGHT)
        check_wrong(self, table_through, right, {"table": rows})
        # Some of the wrong rows alone, as each two of them are tried together.
        wrong = {"frame": NO_FRAME_ROWS, "places": PLACES[::4], "other": NO_FRAME_ROWS, "others": PLACES[::4],
                 "table": rows[::9]}
        check_wrong(self, table_through, right, wrong)
        # A table with which there is no table curve is asked alike.
        check_wrong(self, table_through, {**right, "places": (1, 2), "others": (5, 6, 7)}, {"table": rows})

    def test_a_table_that_is_turned(self):
        right = {"frame": RAMP, "places": (1, 5), "other": BOW, "others": (0, 2, 4)}
        check_error(self, table_through, {**right, "table": ((1, 4), (2, 5), (3, 7))}, InvalidHeights, "index", None)
        check_error(self, table_through, {**right, "table": ((1, 4), (2, 5))}, InvalidHeights, "index", 0)
        check_error(self, table_through, {**right, "table": ((1, 4, 4), (2, 5))}, InvalidHeights, "index", 1)
        check_error(self, table_through, {**right, "table": ((1, 4, 4), [2, 5, 5])}, InvalidHeights, "index", 1)
        amounts = (((1, 1), (1, 1)),) * 3
        for rows, told in ((amounts, None), (amounts[:2], 0)):
            check_error(self, table_value, {"frame": RAMP, "other": BOW, "amounts": rows, "place": 1, "spot": 1},
                        InvalidAmounts, "index", told)

    def test_wrong_arguments_of_table_value(self):
        row = ((1, 2), (0, 1), (-4, 3))
        right = {"frame": RAMP, "other": BOW, "amounts": (row, row), "place": 1, "spot": 10 ** 6}
        rows = self.row_rows(InvalidAmounts, 2, row, NO_FRACTIONS)
        wrong = {"frame": NO_FRAME_ROWS, "other": NO_FRAME_ROWS, "amounts": rows, "place": PLACE, "spot": PLACE}
        check_wrong(self, table_value, right, wrong)

    def test_places_of_both_ways_are_places(self):
        for places in ((), (2, 1), (1, 1), [1], tuple(range(13))):
            right = {"frame": RAMP, "places": (1,), "other": BOW, "others": (1,), "table": ((1,),)}
            for name in ("places", "others"):
                told = None if places in ((), [1]) else 12 if len(places) == 13 else 1
                check_error(self, table_through, {**right, name: places}, InvalidPlaces, "index", told)

    def test_calls_change_nothing(self):
        heights = ((1, 2), (3, 4))
        for _ in range(2):
            found = table_through(RAMP, (1, 5), RAMP, (1, 5), heights)
            self.assertEqual(found, (((4, 1), (8, 1)), ((12, 1), (16, 1))))
            self.assertEqual(table_value(RAMP, RAMP, found, 3, 3), (10, 1))
        self.assertEqual(heights, ((1, 2), (3, 4)))


if __name__ == "__main__":
    unittest.main()
