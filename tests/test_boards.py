"""The section `bentthrough/boards.py` of the document."""

import unittest

from anything import NO_FRAMES, NO_INTEGERS, Stranger, caught
from at_hand import BOW, FRAMES, RAMP, WIDE, places_near
from bentthrough import boards
from bentthrough.boards import Board
from bentthrough.curves import Curve
from bentthrough.errors import InvalidNumber, NotAFrame, NothingToUndo, TooMany
from bentthrough.frames import Frame
from bentthrough.matches import rank
from bentthrough.meeting import curve_through
from examples import check_examples
from reckoned import curve_value, is_met, table_rank
from trials import Halt, check_interleaved, check_passed_on, check_undone_further_back
from wrongs import FRAMES as NO_FRAME_ROWS
from wrongs import NO_HEIGHT, PLACE, check_error, check_last, check_wrong, given

EXAMPLES = """
>>> from bentthrough.boards import Board
>>> board = Board(ramp)
>>> [board.put(1, 3), board.state, board.put(5, 1), board.state, board.curve.amounts, board.put(2, 5), board.state, board.undo(), board.points]
[None, 'many', None, 'one', ((6, 1), (2, 1)), None, 'none', None, ((1, 3), (5, 1))]
"""
GREAT = 10 ** 20
LAST = 10 ** 6


def shown(board):
    """All that can be seen of a board."""
    return board.frame, board.points, board.changes, board.state, board.curve


def board_with(frame, *points):
    """A board with these points."""
    board = Board(frame)
    for place, height in points:
        board.put(place, height)
    return board


class ExamplesTest(unittest.TestCase):
    def test_examples_of_the_document(self):
        check_examples(self, EXAMPLES, {"ramp": RAMP})

    def test_all_is_defined_in_its_file(self):
        self.assertEqual((Board.__module__, boards.Board), ("bentthrough.boards", Board))
        for name in ("__init__", "put", "drop", "bend", "undo", "trial", "tried", "frame", "points", "changes", "state",
                     "curve"):
            self.assertIn(name, vars(Board))


class PointsTest(unittest.TestCase):
    def test_a_new_board(self):
        for board in (Board(RAMP), Board(frame=RAMP)):
            self.assertIs(board.frame, RAMP)
            self.assertEqual((board.points, board.changes, board.state), ((), 0, "many"))
            self.assertEqual((board.curve.__class__, board.curve.frame), (Curve, RAMP))
            self.assertTrue(board)

    def test_points_stand_in_the_order_of_their_places(self):
        board = Board(RAMP)
        for place, height in ((5, 1), (0, -7), (LAST, GREAT), (3, -GREAT), (2, 0)):
            self.assertIsNone(board.put(place, height))
        self.assertEqual(board.points, ((0, -7), (2, 0), (3, -GREAT), (5, 1), (LAST, GREAT)))
        self.assertEqual({part.__class__ for part in (board.points, *board.points)}, {tuple})
        self.assertEqual(board.changes, 5)

    def test_in_the_place_of_a_point(self):
        board = board_with(RAMP, (1, 3), (5, 1), (1, 4))
        self.assertEqual((board.points, board.changes), (((1, 4), (5, 1)), 3))
        board.put(height=-2, place=5)
        self.assertEqual((board.points, board.changes), (((1, 4), (5, -2)), 4))

    def test_drop(self):
        board = board_with(RAMP, (1, 3), (5, 1), (3, 7))
        self.assertIsNone(board.drop(3))
        self.assertEqual(board.points, ((1, 3), (5, 1)))
        self.assertIsNone(board.drop(place=1))
        self.assertIsNone(board.drop(5))
        self.assertEqual((board.points, board.changes, board.state), ((), 6, "many"))

    def test_bend(self):
        board = board_with(RAMP, (1, 3), (2, 5))
        self.assertEqual(board.state, "none")
        self.assertIsNone(board.bend(BOW))
        self.assertIs(board.frame, BOW)
        self.assertEqual((board.points, board.state, board.changes), (((1, 3), (2, 5)), "many", 3))
        board.bend(frame=RAMP)
        self.assertEqual((board.frame, board.state, board.changes), (RAMP, "none", 4))

    def test_twelve_points(self):
        board = board_with(RAMP, *[(place, place) for place in range(0, 24, 2)])
        before = shown(board)
        for place in (1, 24, LAST):
            self.assertEqual(caught(self, TooMany, lambda: board.put(place, 0)).limit, 12)
            self.assertEqual(shown(board), before)
        board.put(4, -9)
        self.assertEqual(dict(board.points), {**dict(before[1]), 4: -9})
        board.drop(0)
        board.put(LAST, 1)
        self.assertEqual((len(board.points), board.points[-1]), (12, (LAST, 1)))


class StateTest(unittest.TestCase):
    def check_state(self, board):
        """Fails the case unless state and curve fit the points as `curve_through`, `rank` and the values tell."""
        places = tuple(place for place, _ in board.points)
        heights = tuple(height for _, height in board.points)
        met = is_met(board.frame, places, heights)
        alone = table_rank(board.frame, places) == board.frame.hills
        self.assertEqual(board.state, "none" if not met else "one" if alone else "many")
        self.assertEqual(rank(board.frame, places) == board.frame.hills, alone)
        curve, other = board.curve, curve_through(board.frame, places, heights)
        self.assertEqual(curve is None, other is None)
        if met:
            self.assertEqual((curve.__class__, curve.frame), (Curve, board.frame))
            self.assertEqual([curve_value(curve, place) for place in places], list(heights))
            if alone:
                self.assertEqual(curve, other)
        self.assertEqual(board.curve, curve)
        return board.state

    def test_points_that_come_and_go(self):
        seen = []
        for number, frame in enumerate((*FRAMES, *WIDE)):
            board, near = Board(frame), places_near(frame)[:9]
            with self.subTest(frame=frame.text):
                for step, place in enumerate(near):
                    board.put(place, (step * step + number) % 3 - 1)
                    seen.append(self.check_state(board))
                    board.put(place, 0)
                    seen.append(self.check_state(board))
                board.bend(FRAMES[number % 7])
                seen.append(self.check_state(board))
                while len(board.points) > 1:
                    board.drop(board.points[len(board.points) // 2][0])
                    seen.append(self.check_state(board))
        self.assertEqual(sorted(set(seen)), ["many", "none", "one"])

    def test_without_points(self):
        for frame in (*FRAMES, *WIDE):
            board = Board(frame)
            self.assertEqual((board.state, board.curve.frame), ("many", frame))
            self.assertEqual(len(board.curve.amounts), frame.hills)

    def test_where_no_hill_stands(self):
        for frame in (RAMP, BOW, Frame(0, (0, 1))):
            board = board_with(frame, (7, 0), (LAST, 0))
            self.assertEqual(self.check_state(board), "many")
            board.put(9, 1)
            self.assertEqual(self.check_state(board), "none")

    def test_by_hand(self):
        for frame, points, told in (
            (RAMP, ((1, 3),), "many"), (RAMP, ((1, 3), (5, 1)), "one"), (RAMP, ((1, 3), (2, 6)), "many"),
            (RAMP, ((1, 3), (2, 5)), "none"), (RAMP, ((1, 3), (2, 6), (5, GREAT)), "one"), (RAMP, ((0, 0),), "many"),
            (RAMP, ((0, 1),), "none"), (RAMP, ((0, 0), (3, 1), (4, 1), (9, 0)), "one"),
            (Frame(0, (0, 4)), ((1, 7),), "one"), (Frame(0, (0, 4)), ((1, 7), (2, 7)), "one"),
            (Frame(0, (0, 4)), ((1, 7), (2, 6)), "none"), (Frame(0, (0, 4)), ((5, 0),), "many"),
        ):
            with self.subTest(frame=frame.text, points=points):
                self.assertEqual(self.check_state(board_with(frame, *points)), told)


class UndoTest(unittest.TestCase):
    def test_each_change_is_taken_back(self):
        board = Board(RAMP)
        steps = (lambda: board.put(1, 3), lambda: board.put(5, 1), lambda: board.put(1, 4), lambda: board.bend(BOW),
                 lambda: board.drop(5), lambda: board.put(5, 5), lambda: board.bend(RAMP), lambda: board.drop(1),
                 # these leave all as it was
                 lambda: board.put(5, 5), lambda: board.bend(RAMP), lambda: board.put(5, 5), lambda: board.drop(5))
        seen = [shown(board)]
        for many, step in enumerate(steps, start=1):
            self.assertIsNone(step())
            self.assertEqual(board.changes, many)
            seen.append(shown(board))
        for told in reversed(seen[:-1]):
            self.assertIsNone(board.undo())
            self.assertEqual(shown(board), told)
        for _ in range(2):
            caught(self, NothingToUndo, board.undo)
            self.assertEqual(shown(board), seen[0])

    def test_what_was_taken_back_is_gone(self):
        board = board_with(RAMP, (1, 3), (5, 1))
        board.undo()
        board.put(2, 2)
        board.undo()
        self.assertEqual((board.points, board.changes), (((1, 3),), 1))
        board.undo()
        caught(self, NothingToUndo, board.undo)

    def test_very_many_changes(self):
        board = Board(RAMP)
        for number in range(3000):
            board.put(number % 5, number)
        self.assertEqual(board.changes, 3000)
        for _ in range(2990):
            board.undo()
        self.assertEqual((board.changes, board.points), (10, ((0, 5), (1, 6), (2, 7), (3, 8), (4, 9))))

    def test_boards_do_not_share_what_they_hold(self):
        one, other = Board(RAMP), Board(RAMP)
        one.put(1, 3)
        self.assertEqual((other.points, other.changes), ((), 0))
        points = one.points
        one.put(2, 4)
        self.assertEqual(points, ((1, 3),))


class TrialTest(unittest.TestCase):
    def make(self):
        return board_with(RAMP, (1, 3), (5, 1))

    def change(self, board):
        board.put(2, board.changes)
        board.bend(BOW)
        board.drop(1) if board.points[0][0] == 1 else board.put(1, 8)

    def test_all_is_as_it_was_when_the_rows_end(self):
        board = self.make()
        before = shown(board)
        with board.trial() as same:
            self.assertIs(same, board)
            self.change(board)
            self.assertNotEqual(shown(board), before)
        self.assertEqual(shown(board), before)
        board.undo()
        self.assertEqual(board.points, ((1, 3),))

    def test_rows_without_a_change(self):
        board = self.make()
        before = shown(board)
        with board.trial():
            pass
        self.assertEqual(shown(board), before)

    def test_rows_that_are_left_early(self):
        board = self.make()
        before = shown(board)

        def left():
            with board.trial():
                self.change(board)
                return board.changes

        self.assertEqual(left(), 5)
        self.assertEqual(shown(board), before)
        for _ in range(2):
            with board.trial():
                self.change(board)
                continue
        self.assertEqual(shown(board), before)

    def test_exceptions_are_passed_on(self):
        check_passed_on(self, self.make, shown, self.change)
        board = self.make()
        before = shown(board)
        with self.assertRaises(InvalidNumber) as held:
            with board.trial():
                self.change(board)
                board.drop("x")
        self.assertEqual((held.exception.given, shown(board)), ("x", before))

    def test_what_is_taken_back_within_the_rows(self):
        check_undone_further_back(self, self.make, shown, self.change)
        board = self.make()
        before = shown(board)
        with board.trial():
            board.undo()
            board.undo()
            caught(self, NothingToUndo, board.undo)
            board.put(9, 9)
        self.assertEqual(shown(board), before)

    def test_trials_within_trials(self):
        board = self.make()
        outer = shown(board)
        with board.trial():
            board.put(2, 2)
            middle = shown(board)
            with board.trial():
                self.change(board)
                inner = shown(board)
                with board.trial():
                    board.undo()
                self.assertEqual(shown(board), inner)
            self.assertEqual(shown(board), middle)
            with self.assertRaises(Halt):
                with board.trial():
                    self.change(board)
                    raise Halt()
            self.assertEqual(shown(board), middle)
        self.assertEqual(shown(board), outer)

    def test_a_trial_that_is_used_again_and_within_itself(self):
        board = self.make()
        trial = board.trial()
        for height in (1, 2):
            board.put(3, height)
            before = shown(board)
            with trial as same:
                self.assertIs(same, board)
                self.change(board)
                middle = shown(board)
                with trial as same:
                    self.assertIs(same, board)
                    board.put(3, 99)
                    inner = shown(board)
                    with self.assertRaises(Halt):
                        with trial:
                            board.undo()
                            raise Halt()
                    self.assertEqual(shown(board), inner)
                self.assertEqual(shown(board), middle)
                with trial:
                    board.bend(RAMP)
                self.assertEqual(shown(board), middle)
            self.assertEqual(shown(board), before)

    def test_a_trial_begins_with_its_rows(self):
        board = Board(RAMP)
        trial = board.trial()
        board.put(1, 3)
        with trial:
            board.put(2, 4)
        self.assertEqual((board.points, board.changes), (((1, 3),), 1))

    def test_trials_that_end_in_another_order(self):
        check_interleaved(self, self.make, shown, self.change)

    def test_tried(self):
        board = self.make()
        before, thing = shown(board), object()
        self.assertIs(board.tried(lambda same: thing), thing)
        self.assertIsNone(board.tried(action=self.change))
        self.assertEqual(shown(board), before)
        self.assertIs(board.tried(lambda same: same), board)
        self.assertEqual(board.tried(lambda same: (same.put(2, 5), same.state)), (None, "none"))
        self.assertEqual(board.tried(lambda _: (board.put(2, 5), board.changes)), (None, 3))
        within = board.tried(lambda same: same.tried(lambda other: (other.put(3, 3), other.changes)))
        self.assertEqual(within, (None, 3))
        self.assertEqual(board.tried(Board.undo), None)
        self.assertEqual(shown(board), before)


class ArgumentsTest(unittest.TestCase):
    def test_frames(self):
        check_wrong(self, Board, {"frame": RAMP}, {"frame": NO_FRAME_ROWS})
        board = board_with(RAMP, (1, 3))
        before = shown(board)
        for thing in NO_FRAMES:
            check_error(self, board.bend, {"frame": thing}, NotAFrame, "given", thing)
            self.assertEqual(shown(board), before)

    def test_put(self):
        wrong = {"place": PLACE, "height": given(InvalidNumber, NO_HEIGHT)}
        board = board_with(RAMP, (1, 3), (5, 1))
        before = shown(board)
        for place, *error in PLACE:
            check_error(self, board.put, {"place": place, "height": 7}, *error)
            check_error(self, board.put, {"place": place, "height": "x"}, *error)
            self.assertEqual(shown(board), before)
        for height, *error in wrong["height"]:
            for place in (1, 3):
                check_error(self, board.put, {"place": place, "height": height}, *error)
            self.assertEqual(shown(board), before)

    def test_too_many_comes_last(self):
        wrong = {"place": PLACE, "height": given(InvalidNumber, NO_HEIGHT)}
        board = board_with(RAMP, *[(place, 0) for place in range(12)])
        before = shown(board)
        check_last(self, board.put, {"place": 12, "height": 7}, (TooMany, "limit", 12), wrong)
        self.assertEqual(shown(board), before)

    def test_drop(self):
        for points, wrong in (((), (0, 1)), (((1, 3), (0, 7)), (2, 3, 7)), (((LAST, 3),), (3, 0, LAST + 1, LAST - 1))):
            board = board_with(RAMP, *points)
            before = shown(board)
            for thing in (*NO_INTEGERS, *wrong, -1, 10 ** 59, -10 ** 59):
                check_error(self, board.drop, {"place": thing}, InvalidNumber, "given", thing)
            self.assertEqual(shown(board), before)

    def test_nothing_to_undo(self):
        board = Board(RAMP)
        before = shown(board)
        caught(self, NothingToUndo, board.undo)
        self.assertEqual(shown(board), before)


class EqualTest(unittest.TestCase):
    def test_a_board_equals_itself_alone(self):
        one, other = board_with(RAMP, (1, 3)), board_with(RAMP, (1, 3))
        self.assertTrue(one == one)
        self.assertFalse(one != one)
        for thing in (other, RAMP, one.points, None, 1, "", (), [], {}, object(), Stranger()):
            self.assertFalse(one == thing)
            self.assertTrue(one != thing)


if __name__ == "__main__":
    unittest.main()
