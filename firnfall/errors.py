"""The refusals of the program, one class for each."""


class FirnError(ValueError):
    """Any refusal."""


class BadValley(FirnError):
    """The reaches are no valley together."""


class BadRound(FirnError):
    """The rows are no round of weather."""


class BadWeather(FirnError):
    """The row is no weather of a year."""


class BadYear(FirnError):
    """The number is no year that may be told or asked for here."""


class BadSurge(FirnError):
    """The number is no surge."""


class BadRock(FirnError):
    """The text is no rock."""


class BadName(FirnError):
    """The text is no name."""


class BadHand(FirnError):
    """There is no such hand of ice."""


class BadDeed(FirnError):
    """The row has the form of no deed."""


class NoLane(FirnError):
    """The valley has no such lane."""


class NoPlace(FirnError):
    """The lane has no such place."""


class NoName(FirnError):
    """Nothing is kept by this name."""


class NotTold(FirnError):
    """What is to be no more was never told."""


class NothingThere(FirnError):
    """There is no deed to take back or to do again."""


class Taken(FirnError):
    """Something is kept by this name already."""


class Full(FirnError):
    """One more would be kept than may be."""


class BadPage(FirnError):
    """The text is no page; `row` is the number of its first wrong row."""

    def __init__(self, row):
        self.row = row
