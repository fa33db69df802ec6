"""The refusals [4]: each keeps, as a field, the very thing that it is made with."""


class SaidError(ValueError):
    """Whatever twicesaid refuses."""


class Wrong(SaidError):
    """What was handed in at a place isn't as told."""

    def __init__(self, at):
        self.at = at


class TooMany(SaidError):
    """There are, or would be, more than the most there may be."""

    def __init__(self, most):
        self.most = most


class TooLong(SaidError):
    """There are, or would be, more words than the most there may be."""

    def __init__(self, most):
        self.most = most


class TooFew(SaidError):
    """There are fewer than the least there must be."""

    def __init__(self, least):
        self.least = least


class NoPiece(SaidError):
    """A speech has no such piece from this place on."""

    def __init__(self, at):
        self.at = at


class NotTwice(SaidError):
    """No such piece stands twice running from this place on."""

    def __init__(self, at):
        self.at = at


class NoStrike(SaidError):
    """It is no strike of the speech."""


class NoWords(SaidError):
    """The speech has no words."""


class NoNumber(SaidError):
    """Nothing has this number."""

    def __init__(self, number):
        self.number = number


class NoWay(SaidError):
    """One doesn't come of the other."""


class BadHouse(SaidError):
    """No house can be made: this row is the first that is wrong."""

    def __init__(self, at):
        self.at = at


class NoWord(SaidError):
    """The house has no such word."""

    def __init__(self, word):
        self.word = word


class Known(SaidError):
    """A listener of this name is there already."""

    def __init__(self, name):
        self.name = name


class NoListener(SaidError):
    """Nobody of this name listens."""

    def __init__(self, name):
        self.name = name


class NoPlace(SaidError):
    """There is no such place."""

    def __init__(self, at):
        self.at = at


class Unlike(SaidError):
    """The two listeners aren't deaf to the same words."""


class Nothing(SaidError):
    """There is nothing to undo or to do again."""


class BadRow(SaidError):
    """No book can be made: this row is the first that is wrong."""

    def __init__(self, at):
        self.at = at


class NoName(SaidError):
    """The book has no row of this name."""

    def __init__(self, name):
        self.name = name


class NoText(SaidError):
    """The text writes nothing that could be read back."""


class NoLine(SaidError):
    """The desk knows no such row."""
