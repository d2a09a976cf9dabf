"""The section `bentthrough/desks.py` of the document, and [12]."""

import unittest

from anything import NO_FRAMES, NO_INTEGERS, NO_STRINGS, Blank, Stranger, caught, check_given
from at_hand import BOW, FRAMES, RAMP, WIDE, places_near
from bentthrough import desks
from bentthrough.desks import Desk
from bentthrough.errors import (Broken, InUse, InvalidClaim, InvalidIndex, InvalidName, NotAFrame, NothingToUndo,
                                UnknownName)
from bentthrough.frames import Frame
from reckoned import table_rank
from trials import Halt, check_interleaved, check_passed_on, check_undone_further_back
from wrongs import NO_ROW_OF_PLACES, check_error

WIDER = Frame(1, (0, 2, 3, 4, 6))
STEP = Frame(0, (0, 2, 4))
NO_NAMES = (*NO_STRINGS, "", "A", "aB", "a1", "1", "abcdefghi", "a" * 9, "a" * 8000, "a b", " a", "a ", "a\n", "a-b",
            "a_b", "_", "\n", "{", "`")
NO_NUMBERS = (*NO_INTEGERS, -1, 13, 10 ** 20, -10 ** 59, 10 ** 59)


def shown(desk):
    """All that can be seen of a desk."""
    return desk.names, desk.claims, desk.changes, [desk.thing(name) for name in desk.names]


def desk_with(claims=(), **frames):
    """A desk with these frames and claims."""
    desk = Desk()
    for name, frame in frames.items():
        desk.put(name, frame)
    for claim in claims:
        desk.claim(claim)
    return desk


def check_same(case, desk, action):
    """Fails the case if the action leaves anything changed."""
    before = shown(desk)
    action()
    case.assertEqual(shown(desk), before)


class DefinitionsTest(unittest.TestCase):
    def test_all_is_defined_in_its_file(self):
        self.assertEqual((Desk.__module__, desks.Desk), ("bentthrough.desks", Desk))
        for name in ("__init__", "put", "thing", "drop", "claim", "lift", "undo", "trial", "tried", "names", "claims",
                     "changes", "__contains__"):
            self.assertIn(name, vars(Desk))

    def test_a_new_desk(self):
        desk = Desk()
        self.assertEqual((desk.names, desk.claims, desk.changes), ((), (), 0))
        self.assertTrue(desk)


class FramesTest(unittest.TestCase):
    def test_put_thing_and_drop(self):
        desk = Desk()
        for name, frame in (("b", RAMP), ("zzzzzzzz", BOW), ("a", WIDER), ("ab", RAMP), ("b", STEP)):
            self.assertIsNone(desk.put(name, frame))
            self.assertIs(desk.thing(name), frame)
        self.assertEqual((desk.names, desk.changes), (("a", "ab", "b", "zzzzzzzz"), 5))
        self.assertIs(desk.thing(name="ab"), RAMP)
        self.assertIsNone(desk.drop("ab"))
        self.assertIsNone(desk.drop(name="zzzzzzzz"))
        self.assertEqual((desk.names, desk.changes), (("a", "b"), 7))
        desk.put(frame=BOW, name="c")
        self.assertIs(desk.thing("c"), BOW)

    def test_names_of_all_letters(self):
        desk = Desk()
        for name in ("abcdefgh", "ijklmnop", "qrstuvwx", "yz", "put", "degree", "a", "all", "aaaaaaaa"):
            desk.put(name, RAMP)
            self.assertIn(name, desk)
        self.assertEqual(len(desk.names), 9)
        self.assertEqual(list(desk.names), sorted(desk.names))

    def test_in(self):
        desk = desk_with(a=RAMP, b=BOW)
        for thing in (*NO_NAMES, *NO_FRAMES, *NO_INTEGERS, "c", "ab", "rank", RAMP, desk, ("a",), ["a"], [[["a"]]]):
            self.assertIs(thing in desk, False)
        self.assertIs("a" in desk, True)
        self.assertIs("b" in desk, True)
        desk.drop("a")
        self.assertIs("a" in desk, False)
        self.assertIs("a" not in desk, True)

    def test_wrong_names_and_frames(self):
        desk = desk_with(a=RAMP)
        for name in NO_NAMES:
            for frame in (BOW, None, Stranger()):
                check_same(self, desk, lambda: check_error(self, desk.put, {"name": name, "frame": frame}, InvalidName,
                                                           "given", name))
        for frame in NO_FRAMES:
            for name in ("a", "b"):
                check_same(self, desk, lambda: check_error(self, desk.put, {"name": name, "frame": frame}, NotAFrame,
                                                           "given", frame))

    def test_unknown_names(self):
        desk = desk_with([("one", "a", (1, 5)), ("within", "a", "b")], a=RAMP, b=WIDER)
        for action in (desk.thing, desk.drop):
            for name in (*NO_NAMES, *NO_FRAMES, "c", "ab", RAMP, ("a",)):
                check_same(self, desk, lambda: check_error(self, action, {"name": name}, UnknownName, "given", name))

    def test_drop_of_what_is_in_use(self):
        claims = [("all", "a", (1,)), ("within", "b", "c"), ("rank", "d", (1,), 0), ("one", "e", (1,)),
                  ("within", "d", "d"), ("within", "a", "c"), ("rank", "f", (9,), 0)]
        desk = desk_with(claims, a=RAMP, b=RAMP, c=WIDER, d=BOW, e=Frame(0, (0, 4)), f=STEP, g=STEP)
        for name, index in (("a", 0), ("b", 1), ("c", 1), ("d", 2), ("e", 3), ("f", 6)):
            check_same(self, desk, lambda: check_error(self, desk.drop, {"name": name}, InUse, "index", index))
        desk.drop("g")
        desk.lift(0)
        for name, index in (("a", 4), ("b", 0), ("c", 0), ("d", 1), ("e", 2), ("f", 5)):
            check_error(self, desk.drop, {"name": name}, InUse, "index", index)
        desk.lift(5)
        desk.drop("f")
        self.assertNotIn("f", desk)

    def test_words_and_letters_in_claims_are_no_names(self):
        desk = desk_with([("within", "one", "two")], one=RAMP, two=WIDER, within=BOW, all=BOW, o=BOW)
        for name in ("within", "all", "o"):
            desk.drop(name)
        self.assertEqual(desk.names, ("one", "two"))


class ClaimsTest(unittest.TestCase):
    def check_claim(self, desk, claim, holds, told):
        """Fails the case unless the claim is made if it holds, and otherwise breaks as the last one."""
        many, before = len(desk.claims), shown(desk)
        if holds:
            self.assertIsNone(desk.claim(claim))
            self.assertEqual((len(desk.claims), desk.changes), (many + 1, before[2] + 1))
            self.assertIs(desk.claims[-1], claim)
            self.assertEqual(desk.claims[:-1], before[1])
        else:
            error = caught(self, Broken, lambda: desk.claim(claim))
            self.assertEqual((error.index, error.shown), (many, told))
            self.assertEqual(shown(desk), before)

    def check_places(self, desk, name, places):
        """Tries all claims of a frame with these places."""
        frame = desk.thing(name)
        free = table_rank(frame, places)
        self.check_claim(desk, ("all", name, places), free == len(places), free)
        self.check_claim(desk, ("one", name, places), free == len(places) == frame.hills, free)
        for number in (*range(free + 3), 12):
            self.check_claim(desk, ("rank", name, places, number), free >= number, free)

    def test_claims_of_each_word_about_places(self):
        for frame in (*FRAMES[::2], *WIDE):
            desk, near = desk_with(x=frame), places_near(frame)
            for places in (tuple(near[:3]), tuple(near[1:8:2]), tuple(near[2:3]), (0, 10 ** 6), tuple(near[:12])):
                with self.subTest(frame=frame.text, places=places):
                    self.check_places(desk, "x", places)

    def test_claims_by_hand(self):
        desk = desk_with(a=RAMP, b=BOW, c=WIDER)
        for claim, holds, told in (
            (("one", "a", (1, 5)), True, None), (("one", "a", (1, 2)), False, 1), (("one", "a", (1,)), False, 1),
            (("all", "a", (1,)), True, None), (("all", "a", (1, 3, 5)), False, 2), (("all", "a", (7,)), False, 0),
            (("rank", "a", (7,), 0), True, None), (("rank", "a", (7,), 1), False, 0),
            (("rank", "b", (1, 2), 2), True, None), (("rank", "b", (1, 2), 3), False, 2),
            (("rank", "b", (1, 2), 12), False, 2), (("within", "a", "c"), True, None),
            (("within", "c", "a"), False, None), (("within", "a", "a"), True, None),
            (("within", "a", "b"), False, None), (("all", "a", (1,)), True, None),
            (("one", "b", (0, 2, 4)), True, None), (("one", "b", (0, 5, 9)), False, 1),
        ):
            with self.subTest(claim=claim):
                self.check_claim(desk, claim, holds, told)
        self.assertEqual(len(desk.claims), 8)
        desk.claim(claim=("all", "c", (1, 3)))
        self.assertEqual(desk.claims[-1], ("all", "c", (1, 3)))

    def test_no_claims(self):
        desk = desk_with(a=RAMP, b=WIDER)
        things = [*NO_FRAMES, *NO_INTEGERS, *NO_STRINGS, (), ("all",), ("all", "a"), ("one", "a"), ("rank", "a", (1,)),
                  ("within", "a"), ("within",), ("all", "a", (1,), 1), ("one", "a", (1,), 1), ("rank", "a", (1,), 0, 0),
                  ("within", "a", "b", "c"), ("within", "a", "b", (1,)), ["all", "a", (1,)], ["within", "a", "b"],
                  {"all": "a"}, "all", "all a 1"]
        things += [(word, "a", (1,)) for word in ("", "All", "all ", "none", "met", "a", "some", "al", b"all", None, 0,
                                                  True, ("all",), ["all"], {}, Stranger(), Blank())]
        things += [(word, "a", (1,), 1) for word in ("all", "one", "within", "Rank", "below", "through", Stranger())]
        things += [(word, "a", "b") for word in ("Within", "in", "rank", Stranger())]
        for places, _ in NO_ROW_OF_PLACES:
            things += [("all", "a", places), ("one", "a", places), ("rank", "a", places, 0)]
        things += [("rank", "a", (1,), number) for number in NO_NUMBERS] + [("rank", "a", 0, (1,))]
        for thing in things:
            with self.subTest(thing=thing):
                check_same(self, desk, lambda: check_error(self, desk.claim, {"claim": thing}, InvalidClaim, "given",
                                                           thing))

    def test_no_claim_comes_ahead_of_unknown_names(self):
        desk = desk_with(a=RAMP)
        for name in ("b", None, Stranger(), ["a"]):
            for thing in (("all", name, (2, 1)), ("one", name, [1]), ("rank", name, (1,), 13), ("rank", name, (), 0),
                          ("rank", name, (1,), True), ("within", name), ("within", name, name, name),
                          ("x", name, (1,))):
                check_same(self, desk, lambda: check_given(self, InvalidClaim, thing, lambda: desk.claim(thing)))

    def test_names_that_are_none_of_the_desk(self):
        desk = desk_with(a=RAMP, b=WIDER)
        for name in (*NO_NAMES, *NO_FRAMES, *NO_INTEGERS, "c", "ab", ("a",), ["a"], {"a": 1}, RAMP, ((((("a",),),),),)):
            # Some of these claims would not hold either.
            for claim in (("all", name, (1, 2)), ("one", name, (1, 5)), ("rank", name, (1,), 12), ("within", name, "a"),
                          ("within", "b", name), ("within", name, "d"), ("within", name, None), ("within", name, name)):
                check_same(self, desk, lambda: check_error(self, desk.claim, {"claim": claim}, UnknownName, "given",
                                                           name))
        for other in ("d", None):
            check_given(self, UnknownName, "c", lambda: desk.claim(("within", "c", other)))

    def test_lift(self):
        claims = [("all", "a", (1,)), ("one", "a", (1, 5)), ("all", "a", (2,)), ("all", "a", (1,))]
        desk = desk_with(claims, a=RAMP)
        for index in (*NO_INTEGERS, -1, 4, 5, -4, 10 ** 59):
            check_same(self, desk, lambda: check_error(self, desk.lift, {"index": index}, InvalidIndex, "given", index))
        for index, left in ((1, [0, 2, 3]), (2, [0, 2]), (0, [2])):
            self.assertIsNone(desk.lift(index))
            self.assertEqual(desk.claims, tuple(claims[at] for at in left))
        check_error(self, desk.lift, {"index": 1}, InvalidIndex, "given", 1)
        desk.lift(index=0)
        self.assertEqual((desk.claims, desk.changes), ((), 9))
        check_error(self, desk.lift, {"index": 0}, InvalidIndex, "given", 0)


class BrokenTest(unittest.TestCase):
    CLAIMS = (("within", "b", "c"), ("all", "a", (1,)), ("rank", "a", (1, 5), 2), ("one", "a", (1, 5)),
              ("within", "a", "b"), ("all", "c", (1, 3)))

    def make(self):
        return desk_with(self.CLAIMS, a=RAMP, b=WIDER, c=Frame(1, (0, 1, 2, 3, 4, 6)), d=STEP)

    def test_the_first_of_several_that_break(self):
        for name, frame, index, told in (
            ("a", Frame(1, (7, 8, 9)), 1, 0), ("a", STEP, 2, 1), ("a", Frame(1, (0, 2, 4)), 2, 1),
            ("a", Frame(1, (2, 4, 6)), 1, 0), ("a", Frame(1, (0, 2, 6)), 2, 1), ("a", Frame(1, (0, 1, 3, 6)), 4, None),
            ("a", WIDER, 3, 2), ("a", Frame(0, (0, 3, 6)), 4, None),
            ("b", STEP, 0, None), ("b", Frame(1, (0, 2, 3, 4, 7)), 0, None), ("b", Frame(1, (0, 2, 4)), 4, None),
            ("b", Frame(1, (0, 1, 2, 3, 4)), 4, None), ("c", STEP, 0, None), ("c", Frame(1, (2, 3, 4)), 0, None),
            ("c", Frame(1, (7, 8, 9)), 0, None),
        ):
            with self.subTest(name=name, frame=frame.text):
                desk = self.make()
                before = shown(desk)
                error = caught(self, Broken, lambda: desk.put(name, frame))
                self.assertEqual((error.index, error.shown), (index, told))
                self.assertEqual(shown(desk), before)

    def test_frames_with_which_all_claims_hold(self):
        desk = self.make()
        for name, frame in (("a", RAMP), ("a", Frame(1, (0, 2, 3, 6))), ("a", RAMP), ("d", BOW), ("d", RAMP),
                            ("c", Frame(1, (0, 1, 2, 3, 4, 5, 6))), ("b", Frame(1, (0, 1, 2, 4, 6))),
                            ("e", STEP), ("b", RAMP)):
            desk.put(name, frame)
            self.assertEqual((desk.thing(name), desk.claims), (frame, self.CLAIMS))

    def test_broken_comes_last(self):
        desk = self.make()
        for frame in NO_FRAMES:
            check_given(self, NotAFrame, frame, lambda: desk.put("a", frame))
        check_given(self, InvalidName, "A", lambda: desk.put("A", STEP))
        check_given(self, UnknownName, "x", lambda: desk.claim(("within", "x", "d")))
        check_given(self, UnknownName, "x", lambda: desk.claim(("one", "x", (1, 2))))
        error = caught(self, Broken, lambda: desk.claim(("one", "d", (1,))))
        self.assertEqual((error.index, error.shown), (6, 1))

    def test_lifted_claims_break_no_more(self):
        desk = self.make()
        caught(self, Broken, lambda: desk.put("b", STEP))
        desk.lift(0)
        error = caught(self, Broken, lambda: desk.put("b", STEP))
        self.assertEqual((error.index, error.shown), (3, None))
        desk.lift(3)
        desk.put("b", STEP)
        desk.undo()
        desk.undo()
        self.assertEqual(caught(self, Broken, lambda: desk.put("b", STEP)).index, 3)

    def test_after_each_change_all_claims_hold(self):
        frames, claims = (RAMP, WIDER, STEP, BOW, Frame(1, (0, 1, 2, 3, 4, 6)), Frame(0, (0, 4))), []
        for name in ("a", "b"):
            claims += [("within", name, "b"), ("all", name, (1,)), ("one", name, (1, 5)), ("rank", name, (1, 2, 3), 2),
                       ("all", name, (1, 3)), ("rank", name, (5, 9), 1)]
        desk, broken = desk_with(a=RAMP, b=WIDER), 0
        for number in range(400):
            try:
                if number % 3 == 0:
                    desk.put("ab"[number % 2], frames[number * 7 % 11 % len(frames)])
                elif number % 5 == 1 and desk.claims:
                    desk.lift(number % len(desk.claims))
                elif number % 7 == 2:
                    desk.undo()
                else:
                    desk.claim(claims[number * 5 % 17 % len(claims)])
            except Broken:
                broken += 1
            self.check_all_hold(desk)
        self.assertTrue(50 < broken < 350)

    def check_all_hold(self, desk):
        """Asks all claims of the desk anew."""
        for word, name, other, *number in desk.claims:
            frame = desk.thing(name)
            if word == "within":
                knots = desk.thing(other).knots
                self.assertEqual(frame.degree, desk.thing(other).degree)
                self.assertTrue(all(frame.knots.count(knot) <= knots.count(knot) for knot in frame.knots))
            else:
                free = table_rank(frame, other)
                if word == "rank":
                    self.assertGreaterEqual(free, number[0])
                else:
                    self.assertEqual(free, len(other))
                    self.assertIn(word, ("all", "one") if free == frame.hills else ("all",))


class UndoTest(unittest.TestCase):
    def test_each_deed_is_taken_back(self):
        desk = Desk()
        claim = ("all", "a", (1,))
        steps = (lambda: desk.put("a", RAMP), lambda: desk.put("b", BOW), lambda: desk.claim(claim),
                 lambda: desk.put("a", WIDER), lambda: desk.claim(("within", "a", "a")), lambda: desk.drop("b"),
                 lambda: desk.claim(claim), lambda: desk.lift(0), lambda: desk.lift(0), lambda: desk.put("c", STEP),
                 # these leave all as it was
                 lambda: desk.put("a", WIDER), lambda: desk.put("c", STEP), lambda: desk.lift(0),
                 lambda: desk.drop("c"), lambda: desk.drop("a"))
        seen = [shown(desk)]
        for many, step in enumerate(steps, start=1):
            self.assertIsNone(step())
            self.assertEqual(desk.changes, many)
            seen.append(shown(desk))
        for told in reversed(seen[:-1]):
            self.assertIsNone(desk.undo())
            self.assertEqual(shown(desk), told)
        for _ in range(2):
            check_same(self, desk, lambda: caught(self, NothingToUndo, desk.undo))

    def test_what_fails_is_no_deed(self):
        desk = desk_with([("one", "a", (1, 5))], a=RAMP)
        for action in (lambda: desk.put("a", STEP), lambda: desk.put("A", RAMP), lambda: desk.claim(("all", "a", (9,))),
                       lambda: desk.claim(()), lambda: desk.lift(1), lambda: desk.drop("a"), lambda: desk.drop("b")):
            with self.assertRaises((ValueError, LookupError, ArithmeticError)):
                action()
        self.assertEqual(desk.changes, 2)
        desk.undo()
        self.assertEqual((desk.claims, desk.names), ((), ("a",)))

    def test_desks_do_not_share_what_they_hold(self):
        one, other = Desk(), Desk()
        one.put("a", RAMP)
        self.assertEqual((other.names, other.changes, "a" in other), ((), 0, False))


class TrialTest(unittest.TestCase):
    def make(self):
        return desk_with([("one", "a", (1, 5))], a=RAMP, b=WIDER)

    def change(self, desk):
        desk.put("c", BOW if desk.changes % 2 else STEP)
        if "a" in desk:
            desk.claim(("all", "a", (1,)))
        desk.put("b", STEP)

    def test_what_was_done_stays_if_the_rows_end_without_an_exception(self):
        desk, other = self.make(), self.make()
        with desk.trial() as same:
            self.assertIs(same, desk)
            self.change(desk)
        self.change(other)
        self.assertEqual(shown(desk), shown(other))
        for _ in range(6):
            desk.undo()
        caught(self, NothingToUndo, desk.undo)

    def test_rows_that_are_left_early(self):
        desk = self.make()

        def left():
            with desk.trial():
                self.change(desk)
                return shown(desk)

        self.assertEqual(left(), shown(desk))
        for name in ("x", "y"):
            with desk.trial():
                desk.put(name, RAMP)
                continue
        self.assertEqual(desk.names, ("a", "b", "c", "x", "y"))

    def test_exceptions_are_passed_on(self):
        check_passed_on(self, self.make, shown, self.change)
        desk = self.make()
        before = shown(desk)
        with self.assertRaises(Broken) as held:
            with desk.trial():
                self.change(desk)
                desk.put("a", STEP)
        self.assertEqual((held.exception.index, held.exception.shown, shown(desk)), (0, 1, before))

    def test_what_is_taken_back_within_the_rows(self):
        check_undone_further_back(self, self.make, shown, self.change)
        desk = self.make()
        with desk.trial():
            desk.undo()
            desk.undo()
        self.assertEqual((desk.names, desk.claims, desk.changes), (("a",), (), 1))

    def test_trials_within_trials(self):
        desk = self.make()
        with desk.trial():
            desk.put("x", RAMP)
            middle = shown(desk)
            with self.assertRaises(Halt):
                with desk.trial():
                    desk.put("y", RAMP)
                    with desk.trial():
                        desk.put("z", RAMP)
                    self.assertEqual(desk.names, ("a", "b", "x", "y", "z"))
                    raise Halt()
            self.assertEqual(shown(desk), middle)
            with desk.trial():
                desk.put("w", RAMP)
        self.assertEqual((desk.names, desk.changes), (("a", "b", "w", "x"), 5))
        before = shown(desk)
        with self.assertRaises(Halt):
            with desk.trial():
                with desk.trial():
                    desk.drop("w")
                raise Halt()
        self.assertEqual(shown(desk), before)

    def test_a_trial_that_is_used_again_and_within_itself(self):
        desk = self.make()
        trial = desk.trial()
        for number in range(3):
            desk.put("n", FRAMES[number])
            before = shown(desk)
            with self.assertRaises(Halt):
                with trial as same:
                    self.assertIs(same, desk)
                    desk.put("x", RAMP)
                    with trial:
                        desk.put("y", RAMP)
                    self.assertIn("y", desk)
                    middle = shown(desk)
                    with self.assertRaises(Halt):
                        with trial:
                            desk.put("z", RAMP)
                            desk.drop("x")
                            raise Halt()
                    self.assertEqual(shown(desk), middle)
                    raise Halt()
            self.assertEqual(shown(desk), before)
            with trial:
                with trial:
                    desk.put("stays", RAMP)
        self.assertEqual((desk.names, desk.changes), (("a", "b", "n", "stays"), 9))

    def test_a_trial_begins_with_its_rows(self):
        desk = Desk()
        trial = desk.trial()
        desk.put("a", RAMP)
        with self.assertRaises(Halt):
            with trial:
                desk.put("b", RAMP)
                raise Halt()
        self.assertEqual((desk.names, desk.changes), (("a",), 1))

    def test_trials_that_end_in_another_order(self):
        check_interleaved(self, self.make, shown, self.change)

    def test_tried(self):
        desk = self.make()
        thing = object()
        self.assertIs(desk.tried(lambda same: thing), thing)
        self.assertIs(desk.tried(lambda same: same), desk)
        self.assertIsNone(desk.tried(action=self.change))
        self.assertEqual((desk.names, desk.changes), (("a", "b", "c"), 6))
        self.assertEqual(desk.tried(lambda same: (same.put("x", RAMP), desk.changes)), (None, 7))
        self.assertEqual(desk.tried(lambda _: desk.drop("x")), None)
        self.assertEqual((desk.names, desk.changes), (("a", "b", "c"), 8))
        before = shown(desk)
        caught(self, UnknownName, lambda: desk.tried(lambda same: (same.put("y", RAMP), same.drop("x"))))
        self.assertEqual(shown(desk), before)


class EqualTest(unittest.TestCase):
    def test_a_desk_equals_itself_alone(self):
        one, other = desk_with(a=RAMP), desk_with(a=RAMP)
        self.assertTrue(one == one)
        self.assertFalse(one != one)
        for thing in (other, RAMP, one.names, None, 1, "", (), [], {}, object(), Stranger()):
            self.assertFalse(one == thing)
            self.assertTrue(one != thing)


if __name__ == "__main__":
    unittest.main()
