"""Judging: whether what rows tell of houses can come about."""

from newsflood.checks import LAST_DAY, LONGEST_LIFE, MOST_HOUSES, is_two, is_whole
from newsflood.errors import BadRow

LAST_NUMBER = 999


class Book:
    """What is known of the houses by the rows so far."""

    def __init__(self):
        self._days = [0] * MOST_HOUSES
        # How many notes each house wrote.
        self._counts = [0] * MOST_HOUSES
        # Of each note that was written: its mark, with the day that is its end.
        self._ends = {}
        self._called_back = {}
        # Each (house, mark) of a note that ever came there, and of one that went.
        self._came = {}
        self._gone = {}

    def take(self, row):
        """Take a row in; False, with nothing taken in, if it can't come about."""
        match row:
            case ("day", house, day):
                return self._day(house, day)
            case ("write", house, mark, life):
                return self._write(house, mark, life)
            case ("back", mark):
                return self._back(mark)
            case ("come", house, mark):
                return self._come(house, mark)
            case ("go", house, mark):
                return self._go(house, mark)
        return False

    def _day(self, house, day):
        if day <= self._days[house]:
            return False
        self._days[house] = day
        return True

    def _write(self, house, mark, life):
        if mark != (house, self._counts[house]):
            return False
        self._counts[house] += 1
        self._ends[mark] = self._days[house] + life
        self._came[(house, mark)] = True
        return True

    def _back(self, mark):
        if mark not in self._ends:
            return False
        self._called_back[mark] = True
        return True

    def _come(self, house, mark):
        if (house, mark) in self._came or not self._lives(house, mark):
            return False
        self._came[(house, mark)] = True
        return True

    def _go(self, house, mark):
        if not self._is_there(house, mark) or mark not in self._called_back:
            return False
        self._gone[(house, mark)] = True
        return True

    def _is_there(self, house, mark):
        """Whether a note came to a house, and is there still."""
        if (house, mark) not in self._came or (house, mark) in self._gone:
            return False
        return self._lives(house, mark)

    def _lives(self, house, mark):
        """Whether a note was written, and hasn't ended by the house's day."""
        return mark in self._ends and self._ends[mark] > self._days[house]


def judged(rows):
    """Tell the number of the first row that can't come about behind those ahead; None, if all can."""
    # What is no row is refused even behind one that can't come about.
    for number, row in enumerate(rows):
        if not _is_row(row):
            raise BadRow(number)
    book = Book()
    for number, row in enumerate(rows):
        if not book.take(row):
            return number
    return None


def _is_row(row):
    """Whether it is a row of one of the five kinds, with all in its range."""
    match row:
        case ("day", house, day):
            return _is_house(house) and is_whole(day, 0, LAST_DAY)
        case ("write", house, mark, life):
            return _is_house(house) and _is_mark(mark) and is_whole(life, 1, LONGEST_LIFE)
        case ("back", mark):
            return _is_mark(mark)
        case ("come", house, mark):
            return _is_house(house) and _is_mark(mark)
        case ("go", house, mark):
            return _is_house(house) and _is_mark(mark)
    return False


def _is_house(value):
    """Whether it is the number of one of as many houses as there can be."""
    return is_whole(value, 0, MOST_HOUSES - 1)


def _is_mark(value):
    """Whether it is a mark that one of these houses can give."""
    return is_two(value, MOST_HOUSES - 1, LAST_NUMBER)
