"""What [2] promises over the whole program, on frames of each degree with knots apart and alike."""

import unittest
from fractions import Fraction
from itertools import product
from math import gcd

from at_hand import BOW, FRAMES, RAMP, WIDE, curve_of, places_near
from bentthrough.boards import Board
from bentthrough.bounds import always_one, range_at, some_row
from bentthrough.certificates import certify_below, certify_rank, certify_through, certify_turns
from bentthrough.checker import accepts
from bentthrough.console import Console
from bentthrough.curves import Curve, area, piece, slope
from bentthrough.desks import Desk
from bentthrough.errors import NotKnown, NotPossible, NotRight
from bentthrough.frames import Frame
from bentthrough.hills import standing, value
from bentthrough.matches import all_met, just_one, matching, one_at_most, rank
from bentthrough.meeting import bar, curve_through, lifted, nothing_at
from bentthrough.putting import mending, put_in, taken_out
from bentthrough.signs import turning_row, turns
from bentthrough.squares import miss, nearest
from bentthrough.tables import table_met, table_through, table_value
from bentthrough.telling import fewest_more, sure_value, told_at
from papers import changed
from reckoned import curve_value, hill_value, table_rank

GREAT = 10 ** 20
ALL = (*FRAMES, *WIDE)


def rows_of_places(frame):
    """Some ascending rows of places near the knots of the frame, also one of as many places as hills."""
    near = places_near(frame)
    rows = {tuple(near[start:start + many]) for many in (1, 2, 4, 12) for start in (0, 2)}
    rows |= {tuple(near[1:2 * many:2]) for many in (3, frame.hills)}
    own = some_row(frame, (0,) * frame.hills, (10 ** 6,) * frame.hills)
    return sorted(row for row in rows | {own or ()} if 1 <= len(row) <= 12)


def rows_of_heights(many):
    """Heights of many kinds for so many places."""
    yield (0,) * many
    yield (1,) * many
    yield (GREAT, -GREAT) * (many // 2) + (GREAT,) * (many % 2)
    for index in range(many):
        yield tuple(int(index == other) for other in range(many))
    for start in (1, 2, 3):
        yield tuple((start * index * index + 5 * index + start) % 13 - 6 for index in range(many))


def cases():
    """Frames with places."""
    return [(frame, places) for frame in ALL for places in rows_of_places(frame)]


class HeightsTest(unittest.TestCase):
    """What is told for all heights holds for each of them."""

    def test_curves_through_all_heights(self):
        told = []
        for frame, places in cases():
            met, alone = all_met(frame, places), one_at_most(frame, places)
            told.append((met, alone, just_one(frame, places)))
            for heights in rows_of_heights(len(places)):
                with self.subTest(frame=frame.text, places=places, heights=heights):
                    curve = curve_through(frame, places, heights)
                    if met:
                        self.assertIsNotNone(curve)
                    if curve is not None:
                        self.assertEqual([curve_value(curve, place) for place in places], list(heights))
            self.assertEqual(nothing_at(frame, places) == (), alone)
            if not met:
                found = [curve_through(frame, places, heights) for heights in rows_of_heights(len(places))]
                self.assertIn(None, found)
        self.assertEqual(len(set(told)), 4)

    def test_mended_frames_let_curves_through_all_heights(self):
        for frame, places in cases():
            offers = (places[0], places[-1] + 1) if places[-1] < 10 ** 6 else (places[0], 0)
            for chosen in mending(frame, places, offers):
                more = [offers[index] for index in chosen]
                wider = Frame(frame.degree, tuple(sorted([*frame.knots, *more])))
                self.assertTrue(all_met(wider, places))
                for heights in rows_of_heights(len(places)):
                    self.assertIsNotNone(curve_through(wider, places, heights))

    def test_tables(self):
        rows = [(frame, places) for frame, places in cases() if len(places) <= 4][::5]
        counts = {True: 0, False: 0}
        for (frame, places), (other, others) in zip(rows, rows[7:] + rows[:7]):
            met = table_met(frame, places, other, others)
            counts[met] += 1
            found = []
            for at, spot in product(range(len(places)), range(len(others))):
                table = tuple(tuple(int((row, column) == (at, spot)) for column in range(len(others)))
                              for row in range(len(places)))
                amounts = table_through(frame, places, other, others, table)
                found.append(amounts is not None)
                if amounts is not None:
                    values = tuple(tuple(table_value(frame, other, amounts, x, y) for y in others) for x in places)
                    self.assertEqual(values, tuple(tuple((height, 1) for height in row) for row in table))
            self.assertIs(met, all(found))
        self.assertGreater(min(counts.values()), 3)

    def test_values_that_are_told(self):
        for frame, places in cases()[::3]:
            more = fewest_more(frame, places)
            for first, last in told_at(frame, places):
                for heights in rows_of_heights(len(places)):
                    curve = curve_through(frame, places, heights)
                    for place in (first, last):
                        sure = sure_value(frame, places, heights, place)
                        self.assertEqual(sure, None if curve is None else curve.value(place))
            if more is not None and len(places) + len(more) <= 12:
                self.assertEqual(told_at(frame, tuple(sorted(places + more))), ((0, 10 ** 6),))


class ExactTest(unittest.TestCase):
    """All values are exact fractions."""

    def check_fractions(self, *things):
        for top, bottom in things:
            self.assertEqual((top.__class__, bottom.__class__, gcd(top, bottom)), (int, int, 1))
            self.assertGreater(bottom, 0)

    def test_all_fractions_that_are_returned(self):
        for number, frame in enumerate(ALL):
            curve = curve_of(frame, number)
            for place in places_near(frame)[::2]:
                self.check_fractions(curve.value(place), slope(curve, place), area(curve, 0, place),
                                     *piece(curve, place), *[value(frame, hill, place) for hill in range(frame.hills)])
            self.check_fractions(*turning_row(curve))
            for places in rows_of_places(frame)[::3]:
                heights = (GREAT, 1, -3, 0, 7, -GREAT)[:len(places)] + (5,) * (len(places) - 6)
                self.check_fractions(miss(frame, places, heights))
                found = [curve_through(frame, places, heights), *nothing_at(frame, places)]
                if one_at_most(frame, places):
                    found.append(nearest(frame, places, heights))
                if just_one(frame, places):
                    found.append(lifted(frame, places, 0))
                    self.check_fractions(*range_at(frame, places, heights, heights, places[0]))
                for other in found:
                    if other is not None:
                        self.check_fractions(*other.amounts)

    def test_what_is_put_in_changes_no_value(self):
        for number, frame in enumerate(ALL):
            curve, first, last = curve_of(frame, number), frame.knots[0], frame.knots[-1]
            for knot in places_near(frame) if frame.hills < 10 else ():
                if first < knot < last and frame.knots.count(knot) <= frame.degree:
                    wider = put_in(curve, knot)
                    self.check_fractions(*wider.amounts)
                    for place in places_near(wider.frame):
                        self.assertEqual(wider.value(place), curve.value(place))
                    self.assertEqual(taken_out(wider, knot), curve)

    def test_nearest_curves_are_the_curves_through_heights(self):
        for frame, places in cases():
            for heights in rows_of_heights(len(places)):
                curve = curve_through(frame, places, heights)
                self.assertEqual(miss(frame, places, heights) == (0, 1), curve is not None)
                if curve is not None and one_at_most(frame, places):
                    self.assertEqual(nearest(frame, places, heights), curve)


class PlacesTest(unittest.TestCase):
    """What is told of all places within bounds holds for each of them."""

    def test_rows_of_places_within_bounds(self):
        counts = {True: 0, False: 0}
        for frame in ALL:
            row = some_row(frame, (0,) * frame.hills, (10 ** 6,) * frame.hills)
            if row is not None:
                for far in (0, 1, 3, 50):
                    highs = tuple(min(place + far, 10 ** 6) for place in row)
                    always = always_one(frame, row, highs)
                    counts[always] += 1
                    for step in range(0, far + 1, max(1, far // 5)):
                        for last in (False, True):
                            other = tuple(min(place + (step if last or at % 2 else 0), high)
                                          for at, (place, high) in enumerate(zip(row, highs)))
                            if always and all(one < two for one, two in zip(other, other[1:])):
                                self.assertTrue(just_one(frame, other))
        self.assertGreater(min(counts.values()), 20)

    def test_matchings_stand(self):
        for frame, places in cases():
            pairs = matching(frame, places)
            self.assertEqual(len(pairs), table_rank(frame, places))
            for hill, index in pairs:
                self.assertIn(hill, standing(frame, places[index]))
                self.assertGreater(hill_value(frame, hill, places[index]), 0)


class NeverTest(unittest.TestCase):
    """Told weights and curves show what they are told for."""

    def test_weights_that_bar_heights(self):
        barred = 0
        for frame, places in cases():
            for heights in rows_of_heights(len(places)):
                weights = bar(frame, places, heights)
                self.assertEqual(weights is None, curve_through(frame, places, heights) is not None)
                if weights is not None:
                    barred += 1
                    self.assertNotEqual(sum(weight * height for weight, height in zip(weights, heights)), 0)
                    for hill in range(frame.hills):
                        self.assertEqual(sum(weight * hill_value(frame, hill, place)
                                             for weight, place in zip(weights, places)), 0)
        self.assertGreater(barred, 500)

    def test_curves_that_are_nothing_at_all_places(self):
        for frame, places in cases():
            found = nothing_at(frame, places)
            self.assertEqual(len(found), frame.hills - rank(frame, places))
            for curve in found:
                self.assertEqual([curve_value(curve, place) for place in places], [0] * len(places))
                self.assertTrue(any(top for top, _ in curve.amounts))


class DesksTest(unittest.TestCase):
    """After each change all claims of a desk hold."""

    def holds(self, desk, claim):
        word, frame = claim[0], desk.thing(claim[1])
        if word == "within":
            other = desk.thing(claim[2])
            return frame.degree == other.degree and all(
                frame.knots.count(knot) <= other.knots.count(knot) for knot in frame.knots)
        free = table_rank(frame, claim[2])
        return {"all": free == len(claim[2]), "one": free == len(claim[2]) == frame.hills,
                "rank": word == "rank" and free >= claim[-1]}[word]

    def deeds(self, frames):
        """Commands of many kinds, most of which can be done, and many of which break a claim or name nothing."""
        for number in range(600):
            frame, name, other = frames[number * 7 % len(frames)], "abc"[number % 3], "abc"[number * 5 % 7 % 3]
            near = places_near(frame)
            places = " ".join(str(place) for place in near[number % 3:number % 3 + number % 4 + 1])
            own = " ".join(str(place) for place in rows_of_places(frame)[number % 5])
            yield (f"put {name} {frame.text}", f"claim all {name} {places}",
                   f"claim rank {other} {number % 4} {places}", f"put {other} {frame.text}", f"claim one {name} {own}",
                   f"claim within {name} {other}", "undo", f"lift {number % 5}", f"drop {other}", "lift 0",
                   f"claim all {other} {near[0]}")[number * 3 % 11]

    def test_desks_and_consoles_with_many_deeds(self):
        for start in range(3):
            console, failed, most = Console(), 0, 0
            for command in self.deeds(ALL[start::3]):
                before = (console.desk.names, console.desk.claims, console.desk.changes)
                try:
                    console.run(command)
                except (NotRight, NotKnown, NotPossible):
                    failed += 1
                    self.assertEqual((console.desk.names, console.desk.claims, console.desk.changes), before)
                most = max(most, len(console.desk.claims))
                for claim in console.desk.claims:
                    self.assertTrue(self.holds(console.desk, claim))
            self.assertTrue(100 < failed < 500)
            self.assertGreater(most, 3)

    def test_boards_are_at_one_with_desks(self):
        for frame, places in cases()[::4]:
            desk, board = Desk(), Board(frame)
            desk.put("a", frame)
            for place in places:
                board.put(place, 0)
            board.tried(lambda same, frame=frame: same.bend(RAMP if frame is BOW else BOW))
            try:
                desk.claim(("rank", "a", places, frame.hills))
                self.assertEqual(board.state, "one")
            except NotPossible as error:
                self.assertEqual((board.state, error.shown), ("many", rank(frame, places)))


class CheckerTest(unittest.TestCase):
    """What the checker accepts is true, whoever wrote it; it accepts what `certificates` returns."""

    def is_true(self, claim):
        word, text, subject, told = claim
        frame = Frame.read(text)
        if word == "turns":
            return turns(Curve(frame, subject)) >= told
        if word in ("through", "never"):
            return (curve_through(frame, subject, told) is None) == (word == "never")
        return rank(frame, subject) >= told if word == "rank" else rank(frame, subject) <= told

    def pairs(self):
        """Claims with papers of each kind."""
        for frame, places in cases()[::6]:
            for heights in list(rows_of_heights(len(places)))[-2:]:
                yield certify_through(frame, places, heights)
            for number in range(rank(frame, places) + 2):
                for found in (certify_rank(frame, places, number), certify_below(frame, places, number)):
                    if found is not None:
                        yield found
        for number, frame in enumerate(ALL[::3]):
            yield certify_turns(curve_of(frame, number))

    def test_what_certificates_return(self):
        words = set()
        for claim, paper in self.pairs():
            with self.subTest(claim=claim):
                self.assertIs(accepts(claim, paper), True)
                self.assertTrue(self.is_true(claim))
                words.add(claim[0])
        self.assertEqual(words, {"through", "never", "rank", "below", "turns"})

    def test_what_is_accepted_of_what_was_changed(self):
        accepted = 0
        for claim, paper in list(self.pairs())[::9]:
            for other in changed(claim, (0, 1, ())):
                if accepts(other, paper):
                    accepted += 1
                    self.assertTrue(self.is_true(other), other)
            for other in changed(paper, (0, (0, 1))):
                self.assertIn(accepts(claim, other), (True, False))
        self.assertGreater(accepted, 50)

    def test_no_paper_shows_what_is_not_true(self):
        for frame, places in cases()[::5]:
            free = rank(frame, places)
            papers = [matching(frame, places), (), (1,) * len(places), ((0, 1),) * frame.hills,
                      tuple((index, index) for index in range(free + 1)),
                      tuple(tuple(int(one == other) for other in range(len(places))) for one in range(len(places)))]
            for paper in papers:
                for many in range(len(paper) + 1):
                    self.assertIs(accepts(("rank", frame.text, places, free + 1), paper[:many]), False)
                    self.assertIs(accepts(("below", frame.text, places, free - 1), paper[:many]), False)
                    self.assertIs(accepts(("never", frame.text, places, (0,) * len(places)), paper[:many]), False)

    def test_turns_that_are_too_many(self):
        for number, frame in enumerate(ALL):
            curve = curve_of(frame, number)
            row, many = turning_row(curve), turns(curve)
            xs = [Fraction(*x) for x in row]
            more = [*xs, *[x + Fraction(1, 1000) for x in xs], Fraction(frame.knots[-1])]
            paper = tuple((x.numerator, x.denominator) for x in sorted(set(more))[:many + 1])
            self.assertIs(accepts(("turns", frame.text, curve.amounts, many + 1), paper), False)
            self.assertIs(accepts(("turns", frame.text, curve.amounts, many), row), True)


if __name__ == "__main__":
    unittest.main()
