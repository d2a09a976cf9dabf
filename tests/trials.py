"""What holds for the trials of boards and desks alike, in whatever way the rows of these end."""


class Halt(Exception):
    """An exception of no kind that the program knows."""


class Stop(BaseException):
    """An exception that is not even one of Python's ordinary ones."""


EXCEPTIONS = (Halt("x"), Stop(), ValueError(3), KeyboardInterrupt(), SystemExit(1), GeneratorExit(), StopIteration(7))


def check_passed_on(case, make, shown, change):
    """Fails the case unless exceptions are passed on as they are, and leave all as it was when the rows began.

    `make` makes something that has trials, `shown` tells all that can be seen of it, `change` changes it.
    """
    for error in EXCEPTIONS:
        with case.subTest(error=error):
            thing = make()
            before = shown(thing)
            with case.assertRaises(error.__class__) as held:
                with thing.trial() as same:
                    case.assertIs(same, thing)
                    change(thing)
                    case.assertNotEqual(shown(thing), before)
                    raise error
            case.assertIs(held.exception, error)
            case.assertEqual(shown(thing), before)
            with case.assertRaises(error.__class__) as held:
                thing.tried(lambda same: (change(same), throw(error)))
            case.assertIs(held.exception, error)
            case.assertEqual(shown(thing), before)


def throw(error):
    """Raises the error."""
    raise error


def check_undone_further_back(case, make, shown, change):
    """Fails the case unless what was taken back within rows that fail can be taken back again behind them."""
    thing = make()
    change(thing)
    before, many = shown(thing), thing.changes
    with case.assertRaises(Halt):
        with thing.trial():
            while thing.changes:
                thing.undo()
            change(thing)
            change(thing)
            raise Halt()
    case.assertEqual((shown(thing), thing.changes), (before, many))
    for _ in range(many):
        thing.undo()
    case.assertEqual(thing.changes, 0)


def check_interleaved(case, make, shown, change):
    """Fails the case unless trials that begin and end in turn put back each what was when its own rows began."""
    def rows(thing):
        with thing.trial():
            change(thing)
            yield
            raise Halt()

    thing = make()
    first, second = rows(thing), rows(thing)
    before = shown(thing)
    next(first)
    between = shown(thing)
    next(second)
    for ending, told in ((first, before), (second, between)):
        with case.assertRaises(Halt):
            next(ending)
        case.assertEqual(shown(thing), told)
