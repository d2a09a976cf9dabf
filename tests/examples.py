"""Runs examples of the document as they stand: what follows `>>> `, then what it gives or raises, if anything."""


def pairs_of(text):
    """The pairs (line of code, list of the lines that tell what it gives)."""
    pairs = []
    for line in text.strip().splitlines():
        if line.startswith(">>> "):
            pairs.append((line[4:], []))
        else:
            pairs[-1][1].append(line)
    return pairs


def shown(error):
    """An error as the document writes it, its attributes in the order in which they are told."""
    attributes = ", ".join(f"{name}={value!r}" for name, value in vars(error).items())
    return f"{error.__class__.__name__}({attributes})"


def outcome(code, names):
    """What a line of code gives, as the document writes it."""
    try:
        return repr(eval(code, names))
    except (ValueError, LookupError, ArithmeticError) as error:
        if error.__class__.__module__ != "bentthrough.errors":
            raise
        return f"raises {shown(error)}"


def check_examples(case, text, names=None):
    """Fails the case unless each line of code gives what the example tells; returns the names that it made."""
    names = {} if names is None else names
    for code, told in pairs_of(text):
        with case.subTest(code=code):
            if told:
                case.assertEqual([outcome(code, names)], told)
            else:
                exec(code, names)
    return names
