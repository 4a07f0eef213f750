"""What the program refuses, a class for each kind of refusal."""


class NewsError(ValueError):
    """Any refusal."""


class BadHouse(NewsError):
    """A count of houses that can't be, or a house that there isn't."""


class BadDay(NewsError):
    """A day that isn't later, or is behind the last one."""


class BadWorth(NewsError):
    """A worth that no note has."""


class BadLife(NewsError):
    """A life that no note has."""


class NotOwn(NewsError):
    """A mark of no note that the house wrote."""


class BadLetter(NewsError):
    """A letter to another house."""


class BadTies(NewsError):
    """Ties that are not all of two unlike houses."""


class NoWay(NewsError):
    """What is wanted can't be."""


class BadRow(NewsError):
    """A row of another form; `number` tells which, from 0."""

    def __init__(self, number):
        super().__init__(f"row {number} is none")
        self.number = number


class BadText(NewsError):
    """A text with a row that can't be read; `row` tells which, from 0."""

    def __init__(self, row):
        super().__init__(f"row {row} of the text can't be read")
        self.row = row
