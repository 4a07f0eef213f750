"""A world: several houses, and a road between them on which letters lie in turn."""

from newsflood.checks import check_count, check_house
from newsflood.errors import NewsError
from newsflood.house import House


class World:
    """Houses, a road, and the log of all that came about."""

    def __init__(self, many):
        check_count(many)
        self._houses = [House(number, many) for number in range(many)]
        self._road = []
        self._rows = []

    def do(self, step):
        """Do a step; tell the mark if it writes a note, else None."""
        match step:
            case ("write", house, worth, life):
                return self._write(house, worth, life)
            case ("back", house, number):
                self._call_back(house, number)
            case ("day", house, day):
                self._day(house, day)
            case ("days", day):
                self._day_of_all(day)
            case ("tie", one, other):
                self._house(one).tie(other)
                self._house(other).tie(one)
            case ("untie", one, other):
                self._house(one).untie(other)
                self._house(other).untie(one)
            case ("send", house):
                self._road.extend(self._house(house).letters())
            case ("carry", number):
                self._carry(number)
            case ("lose", number):
                self._lose(number)
            case ("twice", number):
                self._twice(number)
            case ("settle",):
                self._settle()
            case _:
                raise NewsError("there is no such step")
        return None

    def shown(self):
        """Tell (day, notes, came, copies) of each house."""
        return [(house.today(), house.notes(), house.came(), house.copies()) for house in self._houses]

    def waits(self):
        """Tell how many letters lie on the road."""
        return len(self._road)

    def log(self):
        """Tell all that came about, as rows that judged takes."""
        return list(self._rows)

    def _house(self, number):
        """Tell the house of that number, refusing one that there isn't."""
        check_house(number, len(self._houses))
        return self._houses[number]

    def _write(self, house, worth, life):
        mark = self._house(house).write(worth, life)
        self._rows.append(("write", house, mark, life))
        return mark

    def _call_back(self, house, number):
        writer = self._house(house)
        notes = writer.notes()
        mark = (house, number)
        writer.call_back(mark)
        self._rows.append(("back", mark))
        self._log_gone(house, notes)

    def _day(self, house, day):
        self._house(house).day(day)
        self._rows.append(("day", house, day))

    def _day_of_all(self, day):
        # A day above the last one is later than all days, so the first house
        # refuses it, while no other one has been told it.
        for number, house in enumerate(self._houses):
            if house.today() < day:
                self._day(number, day)

    def _carry(self, number):
        letters = self._road[:max(number, 0)]
        self._road = self._road[len(letters):]
        for letter in letters:
            self._road.extend(self._hear(letter))

    def _lose(self, number):
        if self._lies(number):
            del self._road[number]

    def _twice(self, number):
        if self._lies(number):
            letter = self._road[number]
            self._road.extend(self._hear(letter))

    def _lies(self, number):
        """Whether there is a letter of that number on the road."""
        return 0 <= number < len(self._road)

    def _settle(self):
        self._hear_all(self._road)
        self._road = []
        while self._round():
            pass

    def _round(self):
        """Let each house have its turn; tell whether a letter was told."""
        told = False
        for house in self._houses:
            letters = house.letters()
            told = told or letters != []
            self._hear_all(letters)
        return told

    def _hear_all(self, letters):
        """Let letters and all answers be heard, those told first ahead."""
        queue = list(letters)
        while queue:
            letter = queue.pop(0)
            queue.extend(self._hear(letter))

    def _hear(self, letter):
        """Let a letter be heard, log what comes of it, and tell the answers."""
        number = letter[0]
        house = self._houses[number]
        came = house.came()
        notes = house.notes()
        answers = house.hear(letter)
        for mark in house.came()[len(came):]:
            self._rows.append(("come", number, mark))
        self._log_gone(number, notes)
        return answers

    def _log_gone(self, number, notes):
        """Log which of the notes that a house had are there no more."""
        left = dict(self._houses[number].notes())
        for mark, _ in notes:
            if mark not in left:
                self._rows.append(("go", number, mark))
