"""The section `bentthrough/console.py` of the document."""

import unittest

from anything import NO_STRINGS, NO_TUPLES, Stranger, caught, check_given
from at_hand import BOW, FRAMES, RAMP, WIDE, places_near
from bentthrough import console as module
from bentthrough.console import Console
from bentthrough.desks import Desk
from bentthrough.errors import (Broken, InUse, InvalidClaim, InvalidCommand, InvalidDegree, InvalidHeights,
                                InvalidIndex, InvalidKnots, InvalidPlaces, NothingToUndo, UnknownName)
from bentthrough.frames import Frame
from examples import check_examples
from reckoned import is_met, table_rank
from wrongs import NO_CURVES

EXAMPLES = """
>>> from bentthrough.console import Console
>>> console = Console()
>>> [console.run("put a degree 1 knots 0 2 4 6"), console.run("rank a 1 2"), console.run("through a 1 2 : 1 1"), console.run("through a 1 5 : -3 1"), console.run("claim one a 1 5"), console.run("show a")]
['ok', '1', 'no', 'yes', 'ok', 'degree 1 knots 0 2 4 6']
>>> console.run("put a degree 0 knots 0 2 4")
raises Broken(index=0, shown=1)
"""
GREAT = 10 ** 20

# One command of each form, all of which can be done one after the other.
RIGHT = (
    ("put a degree 1 knots 0 2 4 6", "ok"), ("put b degree 1 knots 0 2 3 4 6", "ok"), ("claim all a 1 3", "ok"),
    ("claim one a 1 5", "ok"), ("claim rank a 1 1 2", "ok"), ("claim within a b", "ok"), ("rank a 1 2 5", "2"),
    ("through a 1 5 : -3 1", "yes"), ("through a 1 2 : 1 1", "no"), ("show b", "degree 1 knots 0 2 3 4 6"),
    ("names", "a b"), ("claims", "4"), ("lift 3", "ok"), ("drop b", "ok"), ("undo", "ok"),
)
# Words in the place of a name, of a number and of a height that are none.
NO_NAMES = ("A", "aB", "a1", "1", "abcdefghi", "a.", "-", ":", "a,", "_", "a\n", "'a'", "a:", "")
NO_NUMBERS = ("00", "01", "007", "-1", "-0", "+1", "1.", "1.0", "1e2", "0x1", "1_0", "a", "one", ":", "", "1\n", "\n",
              "1,", str(GREAT + 1), "1" + "0" * 21, "9" * 60, "0" * 30, "--1", "- 1")
NO_HEIGHTS = (*[word for word in NO_NUMBERS if word not in ("-1",)], "-01", "-00", "-a", "-", "--1", "-+1", "-1-",
              str(-GREAT - 1), "-" + "9" * 60)


def shown(console):
    """All that can be seen of a console."""
    desk = console.desk
    return desk.names, desk.claims, desk.changes, [desk.thing(name) for name in desk.names]


def console_with(*commands):
    """A console that has done these commands."""
    console = Console()
    for command in commands:
        console.run(command)
    return console


def numbers(count, first=0):
    """So many ascending numbers as words."""
    return " ".join(str(number) for number in range(first, first + count))


class ExamplesTest(unittest.TestCase):
    def test_examples_of_the_document(self):
        check_examples(self, EXAMPLES)

    def test_all_is_defined_in_its_file(self):
        self.assertEqual((Console.__module__, module.Console), ("bentthrough.console", Console))
        for name in ("__init__", "run", "desk"):
            self.assertIn(name, vars(Console))


class FormsTest(unittest.TestCase):
    def check_none(self, console, command):
        """Fails the case unless this is no command, and leaves all as it was."""
        before = shown(console)
        for call in (lambda: console.run(command), lambda: console.run(command=command)):
            check_given(self, InvalidCommand, command, call)
        self.assertEqual(shown(console), before)

    def test_a_new_console(self):
        console = Console()
        self.assertIs(console.desk.__class__, Desk)
        self.assertIs(console.desk, console.desk)
        self.assertEqual((console.run("names"), console.run("claims")), ("", "0"))
        self.assertTrue(console)
        self.assertIsNot(Console().desk, Console().desk)

    def test_each_form_with_its_answer(self):
        for by_name in (False, True):
            console = Console()
            for command, answer in RIGHT:
                found = console.run(command=command) if by_name else console.run(command)
                self.assertEqual((command, found, found.__class__), (command, answer, str))

    def test_words_that_are_left_out_put_in_or_changed(self):
        console = console_with(*[command for command, _ in RIGHT])
        known = {command for command, _ in RIGHT}
        for command in sorted(known):
            words = command.split(" ")
            wrong = {" ".join(words[:at] + [more] + words[at:]) for at in range(len(words) + 1)
                     for more in ("", "x1", "A", "\n", "::", "-")}
            wrong |= {" ".join(words[:at] + [other] + words[at + 1:]) for at in range(len(words))
                      for other in ("", "A", "a9", "-", "\n", words[at] + "\n", words[at].upper() + "Z",
                                    words[at] + ".")}
            wrong |= {" " + command, command + " ", command + "\n", "\n" + command, command.upper() + " A",
                      command.replace(" ", "  "), command.replace(" ", "\n"), "(" + command}
            for text in sorted(wrong - known):
                with self.subTest(command=text):
                    self.check_none(console, text)

    def test_words_that_are_left_out(self):
        console = console_with("put a degree 1 knots 0 2 4 6")
        for command in ("", " ", "put", "put a", "put a degree", "put a degree 1", "put a degree 1 knots", "drop",
                        "lift", "claim", "claim all", "claim all a", "claim one", "claim one a", "claim rank",
                        "claim rank a", "claim rank a 1", "claim within", "claim within a", "rank", "rank a",
                        "through", "through a", "through a 1", "through a 1 :", "through a : 1", "through a :",
                        "through : 1", "show", "a", ":",
                        "put degree 1 knots 0 2 4", "put a 1 knots 0 2 4", "put a degree knots 0 2 4",
                        "put a degree 1 0 2 4", "a degree 1 knots 0 2 4", "all a 1", "within a a", "claim a 1",
                        "claim within a 1", "claim all 1", "claim rank 1 1", "through a 1 1", "through a : 1 : 1"):
            with self.subTest(command=command):
                self.check_none(console, command)

    def test_words_that_are_too_many(self):
        console = console_with("put a degree 1 knots 0 2 4 6", "put b degree 1 knots 0 2 4 6")
        for command in ("drop a b", "lift 0 0", "undo 1", "undo undo", "claim within a b a", "show a b", "names a",
                        "claims 1", "claim all a b 1", "claim one a 1 :", "rank a b 1", "rank a 1 : 1",
                        "through a 1 : 1 :", "through a 1 : : 1", "through a 1 : 1 : 1", "through a 1 5 : 1 : 2",
                        "put a b degree 1 knots 0 2 4", "put a degree 1 1 knots 0 2 4", "put a degree 1 knots 0 2 : 4",
                        "claim all a 1 b", "claim rank a 1 1 a", "claim all all a 1", "rank rank a 1"):
            with self.subTest(command=command):
                self.check_none(console, command)

    def test_words_of_other_kinds(self):
        console = console_with("put a degree 1 knots 0 2 4 6")
        for command in ("Put a degree 1 knots 0 2 4", "put a Degree 1 knots 0 2 4", "put a degree 1 Knots 0 2 4",
                        "put a knots 0 2 4 degree 1", "put a degree 1 knot 0 2 4", "DROP a", "Undo", "redo",
                        "claim none a 1", "claim All a 1", "claim a all 1", "thing a", "bend a", "help", "quit",
                        "name", "claim 1", "list", "through a 1 ; 1", "through a 1 , 1", "degree 1 knots 0 2 4",
                        "one a 1"):
            with self.subTest(command=command):
                self.check_none(console, command)

    def test_words_in_the_place_of_names(self):
        console = console_with("put a degree 1 knots 0 2 4 6")
        for word in NO_NAMES:
            for command in (f"put {word} degree 1 knots 0 2 4", f"drop {word}", f"show {word}", f"claim all {word} 1",
                            f"claim one {word} 1 5", f"claim rank {word} 0 1", f"claim within {word} a",
                            f"claim within a {word}", f"rank {word} 1", f"through {word} 1 : 1"):
                with self.subTest(command=command):
                    self.check_none(console, command)

    def test_words_in_the_place_of_numbers(self):
        console = console_with("put a degree 1 knots 0 2 4 6", "claim all a 1")
        for word in NO_NUMBERS:
            for command in (f"put b degree {word} knots 0 2 4", f"put b degree 1 knots {word} 2 4",
                            f"put b degree 1 knots 0 2 {word}", f"lift {word}", f"claim rank a {word} 1",
                            f"claim rank a 0 {word}", f"claim all a 0 {word}", f"claim one a {word}",
                            f"rank a {word} 5", f"rank a 1 {word}", f"through a {word} : 1",
                            f"through a 1 {word} 2 : 1 1 1"):
                with self.subTest(command=command):
                    self.check_none(console, command)
        for word in NO_HEIGHTS:
            for command in (f"through a 1 : {word}", f"through a 1 2 : 3 {word}", f"through a 1 2 : {word} 3"):
                with self.subTest(command=command):
                    self.check_none(console, command)

    def test_no_strings(self):
        console = console_with("put a degree 1 knots 0 2 4 6")
        for thing in (*NO_STRINGS, *NO_TUPLES, *NO_CURVES, b"undo", ["undo"], ("undo",), Stranger()):
            if not isinstance(thing, str) or thing == "":
                self.check_none(console, thing)

    def test_long_strings(self):
        console = Console()
        for command in ("a" * 8000, " " * 8000, "undo " * 1600, "rank a" + " 1" * 3990, "drop " + "a" * 7995,
                        "lift " + "1" * 7000, ":" * 8000, "through a 1 : " + "1 " * 3990 + "1"):
            self.check_none(console, command)

    def test_how_many_numbers(self):
        console = console_with("put a degree 1 knots 0 2 4 6")
        self.assertEqual(console.run(f"put b degree 4 knots {numbers(15)}"), "ok")
        self.check_none(console, f"put b degree 4 knots {numbers(16)}")
        self.check_none(console, f"put b degree 4 knots {numbers(40)}")
        self.assertEqual(console.run(f"rank b {numbers(12)}"), "10")
        zeros = " ".join(["0"] * 12)
        self.assertEqual(console.run(f"through a {numbers(12)} : {zeros}"), "yes")
        for command in ("claim rank a 0 {}", "rank a {}"):
            console.run(command.format(numbers(12)))
            for count in (13, 14, 60):
                self.check_none(console, command.format(numbers(count)))
        for count in (13, 30):
            for command in ("claim all a {}", "claim one a {}", "through a {} : 0", "through a 1 : {}",
                            "through a 1 : {} -1"):
                self.check_none(console, command.format(numbers(count)))
        caught(self, Broken, lambda: console.run(f"claim all b {numbers(12)}"))
        caught(self, Broken, lambda: console.run(f"claim one b {numbers(12)}"))


class ErrorsTest(unittest.TestCase):
    def setUp(self):
        self.console = console_with("put a degree 1 knots 0 2 4 6", "put b degree 1 knots 0 2 3 4 6", "claim one a 1 5",
                                    "claim within a b")

    def check_fails(self, command, error_class, **told):
        """Fails the case unless the command raises this error with just these attributes and changes nothing."""
        before = shown(self.console)
        error = caught(self, error_class, lambda: self.console.run(command))
        self.assertEqual(vars(error), told)
        self.assertEqual([part.__class__ for part in vars(error).values()], [part.__class__ for part in told.values()])
        self.assertEqual(shown(self.console), before)

    def test_put(self):
        for text, error_class, told in (
            ("5 knots 0 2 4", InvalidDegree, {"given": 5}), (f"{GREAT} knots 0", InvalidDegree, {"given": GREAT}),
            ("1 knots 0 2", InvalidKnots, {"index": None}), ("0 knots 1000001", InvalidKnots, {"index": None}),
            ("0 knots 0 1000001", InvalidKnots, {"index": 1}), ("1 knots 0 3 3 3", InvalidKnots, {"index": 3}),
            (f"1 knots 0 2 {GREAT}", InvalidKnots, {"index": 2}), ("2 knots 0 5 4 6", InvalidKnots, {"index": 2}),
            (f"0 knots {numbers(15)}", InvalidKnots, {"index": 11}), ("0 knots 0", InvalidKnots, {"index": None}),
            ("9 knots 3 2 1", InvalidDegree, {"given": 9}), ("0 knots 0 2 4", Broken, {"index": 0, "shown": 1}),
            ("1 knots 0 2 5 6", Broken, {"index": 1, "shown": None}), ("1 knots 1 0 2 4", InvalidKnots, {"index": 1}),
        ):
            with self.subTest(text=text):
                self.check_fails(f"put a degree {text}", error_class, **told)

    def test_names(self):
        for command, name in (
            ("drop c", "c"), ("show zzzzzzzz", "zzzzzzzz"), ("rank c 1", "c"), ("rank c 5 5", "c"), ("rank ab 1", "ab"),
            ("through c 1 : 1", "c"), ("through c 2 1 : 1 1 1", "c"), ("claim all c 1", "c"), ("claim one c 1 2", "c"),
            ("claim rank c 12 1", "c"), ("claim within c a", "c"), ("claim within a c", "c"), ("claim within c d", "c"),
            ("claim within b d", "d"), ("claim within all one", "all"), ("drop put", "put"),
        ):
            with self.subTest(command=command):
                self.check_fails(command, UnknownName, given=name)

    def test_claims(self):
        for command, claim in (
            ("claim all a 2 1", ("all", "a", (2, 1))), ("claim one a 1 1", ("one", "a", (1, 1))),
            ("claim all a 1000001", ("all", "a", (1000001,))), ("claim rank a 13 1", ("rank", "a", (1,), 13)),
            (f"claim rank a {GREAT} 1", ("rank", "a", (1,), GREAT)), ("claim rank a 0 5 4", ("rank", "a", (5, 4), 0)),
            (f"claim one a 1 {GREAT}", ("one", "a", (1, GREAT))),
            # told ahead of the name that is none of the desk
            ("claim all c 2 1", ("all", "c", (2, 1))), ("claim rank c 13 1", ("rank", "c", (1,), 13)),
        ):
            with self.subTest(command=command):
                self.check_fails(command, InvalidClaim, given=claim)
        for command, index, told in (("claim all a 1 2", 2, 1), ("claim one b 1 5", 2, 2),
                                     ("claim rank a 3 1 2 5", 2, 2), ("claim within b a", 2, None),
                                     ("claim one a 1", 2, 1)):
            with self.subTest(command=command):
                self.check_fails(command, Broken, index=index, shown=told)

    def test_lift_drop_and_undo(self):
        for number in (2, 3, 10 ** 6, GREAT):
            self.check_fails(f"lift {number}", InvalidIndex, given=number)
        self.check_fails("drop a", InUse, index=0)
        self.check_fails("drop b", InUse, index=1)
        for _ in range(4):
            self.console.run("undo")
        self.check_fails("undo", NothingToUndo)
        self.check_fails("lift 0", InvalidIndex, given=0)

    def test_rank_and_through(self):
        for command, error_class, index in (
            ("rank a 2 1", InvalidPlaces, 1), ("rank a 1 1", InvalidPlaces, 1), ("rank a 1000001", InvalidPlaces, 0),
            (f"rank a 0 {GREAT}", InvalidPlaces, 1), ("through a 5 1 : 1 1", InvalidPlaces, 1),
            ("through a 5 1 : 1", InvalidPlaces, 1), ("through a 1 5 : 1", InvalidHeights, None),
            ("through a 1 : 1 5", InvalidHeights, None), (f"through a 1 {GREAT} : 1 5", InvalidPlaces, 1),
            (f"through a 1 : {numbers(12)}", InvalidHeights, None),
        ):
            with self.subTest(command=command):
                self.check_fails(command, error_class, index=index)


class AnswersTest(unittest.TestCase):
    def test_frames_are_put_and_shown(self):
        console = Console()
        for frame in (*FRAMES, *WIDE):
            self.assertEqual(console.run(f"put x {frame.text}"), "ok")
            self.assertEqual((console.run("show x"), console.desk.thing("x")), (frame.text, frame))
            for places in (tuple(places_near(frame)[:3]), tuple(places_near(frame)[::2][:12]), (7, 10 ** 6)):
                words, heights = " ".join(map(str, places)), tuple(place % 5 - 2 for place in places)
                self.assertEqual(console.run(f"rank x {words}"), str(table_rank(frame, places)))
                for row in (heights, (0,) * len(places), (GREAT, -GREAT, *heights)[:len(places)]):
                    told = "yes" if is_met(frame, places, row) else "no"
                    self.assertEqual(console.run(f"through x {words} : {' '.join(map(str, row))}"), told)

    def test_great_numbers(self):
        console = console_with("put a degree 1 knots 0 2 4 1000000")
        self.assertEqual(console.run(f"through a 1 5 : {GREAT} {-GREAT}"), "yes")
        self.assertEqual(console.run(f"through a 1 2 : {GREAT} {GREAT}"), "no")
        self.assertEqual(console.run("through a 0 1000000 : 0 0"), "yes")
        self.assertEqual(console.run("claim rank a 0 0 1000000"), "ok")

    def test_names_and_claims(self):
        console = Console()
        for count, name in enumerate(("b", "zz", "a", "put", "names"), start=1):
            console.run(f"put {name} degree 0 knots 0 4")
            self.assertEqual(console.run("names"), " ".join(sorted(console.desk.names)))
            console.run(f"claim one {name} 1")
            self.assertEqual(console.run("claims"), str(count))
        self.assertEqual(console.run("names"), "a b names put zz")

    def test_words_of_forms_as_names(self):
        console = Console()
        for name in ("degree", "knots", "claim", "all", "within", "undo", "rank"):
            console.run(f"put {name} degree 1 knots 0 2 4 6")
            console.run(f"claim within {name} degree")
            console.run(f"claim all {name} 1 3")
            self.assertEqual(console.run(f"rank {name} 1 2"), "1")
        self.assertEqual(console.desk.claims[-2:], (("within", "rank", "degree"), ("all", "rank", (1, 3))))

    def test_claims_are_made_as_they_are_told(self):
        console = console_with("put a degree 1 knots 0 2 4 6", "claim all a 1", "claim one a 1 5",
                               "claim rank a 2 1 2 5", "claim within a a")
        self.assertEqual(console.desk.claims, (("all", "a", (1,)), ("one", "a", (1, 5)), ("rank", "a", (1, 2, 5), 2),
                                               ("within", "a", "a")))

    def test_methods_and_commands_in_turn(self):
        console = Console()
        desk = console.desk
        desk.put("a", RAMP)
        self.assertEqual((console.run("show a"), console.run("names")), (RAMP.text, "a"))
        console.run("claim one a 1 5")
        caught(self, Broken, lambda: desk.put("a", BOW))
        desk.lift(0)
        self.assertEqual(console.run("claims"), "0")
        console.run("undo")
        self.assertEqual(desk.claims, (("one", "a", (1, 5)),))
        with self.assertRaises(ValueError):
            with desk.trial():
                console.run("put b degree 0 knots 0 1")
                self.assertEqual(console.run("names"), "a b")
                console.run("put c degree 7 knots 0 1")
        self.assertEqual((console.run("names"), desk.changes), ("a", 2))
        self.assertEqual(desk.tried(lambda _: console.run("put b degree 0 knots 0 1")), "ok")
        self.assertEqual((desk.thing("b"), desk.changes), (Frame(0, (0, 1)), 3))
        for _ in range(3):
            console.run("undo")
        caught(self, NothingToUndo, desk.undo)

    def test_a_console_equals_itself_alone(self):
        one, other = Console(), Console()
        self.assertTrue(one == one)
        self.assertFalse(one != one)
        for thing in (other, one.desk, None, 1, "", (), [], {}, object(), Stranger()):
            self.assertFalse(one == thing)
            self.assertTrue(one != thing)


if __name__ == "__main__":
    unittest.main()
