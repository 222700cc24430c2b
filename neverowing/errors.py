"""The errors of the package. Each one tells in `what` which value is wrong."""


class OweError(ValueError):
    """The base class of all errors of the package."""

    def __init__(self, what=None):
        self.what = what


class BadShare(OweError):
    """The top or the bottom of a share is wrong."""


class BadWorld(OweError):
    """A part of a world is wrong, or the world would be silent."""


class NoStanding(OweError):
    """The value is not a standing."""


class NoAsk(OweError):
    """There is no ask of this name."""


class NoAnswer(OweError):
    """There is no answer with this next standing, or it cannot be taken away."""


class BadPrice(OweError):
    """The value is not an integer from 0 on."""


class BadOrder(OweError):
    """The value does not tell each standing once."""


class BadCount(OweError):
    """The value is not an integer within the bounds."""


class TooMany(OweError):
    """There are more things than the number that is told."""


class BadIncome(OweError):
    """The value is not an income of the world."""


class BadTable(OweError):
    """The value is not a table."""


class BadWhole(OweError):
    """The worlds cannot be put together."""


class BadLink(OweError):
    """A link from a first world to a second one is wrong."""


class BadIncomes(OweError):
    """The incomes of the parts of a whole are wrong."""


class BadPapers(OweError):
    """The certificates of the parts of a whole are wrong."""


class BadRule(OweError):
    """The choice of a rule is wrong."""


class BadLot(OweError):
    """The value is not a standing of the service."""


class BadGap(OweError):
    """Nothing can come at this gap."""


class BadPlace(OweError):
    """Nothing can leave from this place."""


class BadExchange(OweError):
    """A part of an exchange is wrong."""


class NoRoom(OweError):
    """There are too few middles."""


class BadPair(OweError):
    """The pair cannot be called, or does not stand there."""


class BadSeats(OweError):
    """The number of seats or the wishes are wrong."""


class BadWish(OweError):
    """The value is not the number of a wish."""


class BadRecipes(OweError):
    """The recipes or the number of rooms are wrong."""


class BadValue(OweError):
    """The value cannot be made."""


class BadDiary(OweError):
    """The value is not a diary."""


class BadName(OweError):
    """The value is not a name."""


class BadRow(OweError):
    """The value is not a row of names."""


class NoTurn(OweError):
    """No turn leads there."""


class Owing(OweError):
    """The keeper would owe."""


class NoSafe(OweError):
    """No answer is safe."""


class BadDeed(OweError):
    """The value is not a list of deeds."""


class BadText(OweError):
    """The value is not the text of what is to be read."""
