"""The errors that the program raises, under three bases."""


class NotRight(ValueError):
    """An argument is not what it should be."""


class InvalidText(NotRight):
    """The string is no text of what is read."""

    def __init__(self, given):
        self.given = given


class InvalidNumber(NotRight):
    """The argument is no number of the kind that is asked for."""

    def __init__(self, given):
        self.given = given


class InvalidName(NotRight):
    """The argument is no name."""

    def __init__(self, given):
        self.given = given


class InvalidIndex(NotRight):
    """The argument is no index or number of what is there."""

    def __init__(self, given):
        self.given = given


class InvalidDegree(NotRight):
    """The argument is no degree."""

    def __init__(self, given):
        self.given = given


class InvalidKnot(NotRight):
    """The argument is no knot that can be put in or taken out."""

    def __init__(self, given):
        self.given = given


class InvalidClaim(NotRight):
    """The argument is no claim."""

    def __init__(self, given):
        self.given = given


class InvalidCommand(NotRight):
    """The argument is no command."""

    def __init__(self, given):
        self.given = given


class NotAFrame(NotRight):
    """The argument is no frame."""

    def __init__(self, given):
        self.given = given


class NotACurve(NotRight):
    """The argument is no curve."""

    def __init__(self, given):
        self.given = given


class InvalidKnots(NotRight):
    """The knot with this index is wrong, or the knots as a whole."""

    def __init__(self, index):
        self.index = index


class InvalidAmounts(NotRight):
    """The amount with this index is wrong, or the amounts as a whole."""

    def __init__(self, index):
        self.index = index


class InvalidPlaces(NotRight):
    """The place with this index is wrong, or the places as a whole."""

    def __init__(self, index):
        self.index = index


class InvalidHeights(NotRight):
    """The height with this index is wrong, or the heights as a whole."""

    def __init__(self, index):
        self.index = index


class InvalidOffers(NotRight):
    """The offer with this index is wrong, or the offers as a whole."""

    def __init__(self, index):
        self.index = index


class NotKnown(LookupError):
    """What is asked for is not there, or is still needed."""


class UnknownName(NotKnown):
    """Nothing stands under this name."""

    def __init__(self, given):
        self.given = given


class InUse(NotKnown):
    """The claim with this index names what should go."""

    def __init__(self, index):
        self.index = index


class NothingToUndo(NotKnown):
    """Nothing is left that can be taken back."""


class NotPossible(ArithmeticError):
    """The arguments are right, but there is nothing that fits them."""


class TooMany(NotPossible):
    """There would be more than this limit."""

    def __init__(self, limit):
        self.limit = limit


class NotOne(NotPossible):
    """There is not just one curve, as the rank shows."""

    def __init__(self, rank):
        self.rank = rank


class Broken(NotPossible):
    """The claim with this index would not hold."""

    def __init__(self, index, shown):
        self.index = index
        self.shown = shown
