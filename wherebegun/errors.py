"""The errors that the program raises, each under one of three base classes."""

# The classes keep their values each for itself: no class between them and their
# base class may do it, since they belong to no other class of this package.


class WrongValue(ValueError):
    """A value that was passed is not what it should be."""


class InvalidWord(WrongValue):
    """It is no word, or one that is too long here."""

    def __init__(self, given):
        self.given = given


class InvalidSigns(WrongValue):
    """It is no string of one to four different signs."""

    def __init__(self, given):
        self.given = given


class InvalidNumber(WrongValue):
    """It is no integer in the range that is asked for."""

    def __init__(self, given):
        self.given = given


class InvalidRound(WrongValue):
    """It is no number of a round."""

    def __init__(self, given):
        self.given = given


class InvalidPlace(WrongValue):
    """It is neither a place nor a place with a number of signs."""

    def __init__(self, given):
        self.given = given


class InvalidRow(WrongValue):
    """It is not the row of a kind or of a loop."""

    def __init__(self, given):
        self.given = given


class InvalidWish(WrongValue):
    """It is no wish of one of the three forms."""

    def __init__(self, given):
        self.given = given


class InvalidIndex(WrongValue):
    """It is not the index of a wish."""

    def __init__(self, given):
        self.given = given


class InvalidName(WrongValue):
    """It is no name."""

    def __init__(self, given):
        self.given = given


class NotARing(WrongValue):
    """It is no Ring."""

    def __init__(self, given):
        self.given = given


class NotAKind(WrongValue):
    """It is no Kind."""

    def __init__(self, given):
        self.given = given


class NotALoop(WrongValue):
    """It is no Loop."""

    def __init__(self, given):
        self.given = given


class OtherSigns(WrongValue):
    """Its signs do not go with those of a loop."""

    def __init__(self, given):
        self.given = given


class InvalidPairs(WrongValue):
    """The pairs of a kind are not valid from this index on."""

    def __init__(self, index):
        self.index = index


class InvalidStates(WrongValue):
    """The states of a loop are not valid from this index on."""

    def __init__(self, index):
        self.index = index


class InvalidRows(WrongValue):
    """The rows of a loop are not valid from this index on."""

    def __init__(self, index):
        self.index = index


class InvalidTurns(WrongValue):
    """The turns of a loop are not valid from this index on."""

    def __init__(self, index):
        self.index = index


class InvalidChanges(WrongValue):
    """The changes of a loop are not valid from this index on."""

    def __init__(self, index):
        self.index = index


class WrongName(LookupError):
    """A name can not be used as it was."""


class UnknownName(WrongName):
    """Nothing stands under this name."""

    def __init__(self, given):
        self.given = given


class InUse(WrongName):
    """The wish with this index names it."""

    def __init__(self, index):
        self.index = index


class NoAnswer(ArithmeticError):
    """The values are right, but there is nothing that could be returned."""


class TooMany(NoAnswer):
    """More than this many would be needed."""

    def __init__(self, limit):
        self.limit = limit


class NoRing(NoAnswer):
    """The kind has no ring."""


class NothingToUndo(NoAnswer):
    """No change is left that could be taken back."""


class Broken(NoAnswer):
    """The wish with this index would not hold."""

    def __init__(self, index):
        self.index = index
