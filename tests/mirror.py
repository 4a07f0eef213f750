"""A second world, done step by step from the words of points 13 and 14 over plain houses."""

import copy

from newsflood.errors import BadDay, BadHouse, NewsError
from newsflood.house import House


class Mirror:
    """Does each step on a copy of itself, so that what is refused changes nothing."""

    def __init__(self, many):
        self.many = many
        self.houses = [House(number, many) for number in range(many)]
        self.days = [0] * many
        self.road = []
        self.log = []

    def do(self, step):
        trial = copy.deepcopy(self.__dict__)
        try:
            return getattr(self, "do_" + step[0])(*step[1:])
        except NewsError:
            self.__dict__ = trial
            raise

    def house(self, number):
        if number not in range(self.many):
            raise BadHouse("none")
        return self.houses[number]

    def shown(self):
        return [(self.days[k], house.notes(), house.came(), house.copies())
                for k, house in enumerate(self.houses)]

    def do_write(self, house, worth, life):
        mark = self.house(house).write(worth, life)
        self.log.append(("write", house, mark, life))
        return mark

    def do_back(self, house, number):
        before = {mark for mark, _ in self.house(house).notes()}
        self.house(house).call_back((house, number))
        self.log.append(("back", (house, number)))
        if (house, number) in before:
            self.log.append(("go", house, (house, number)))

    def do_day(self, house, day):
        self.house(house).day(day)
        self.days[house] = day
        self.log.append(("day", house, day))

    def do_days(self, day):
        if day > 10000:
            raise BadDay("late")
        for house in range(self.many):
            if self.days[house] < day:
                self.do_day(house, day)

    def do_tie(self, one, other):
        self.house(one).tie(other)
        self.house(other).tie(one)

    def do_untie(self, one, other):
        self.house(one).untie(other)
        self.house(other).untie(one)

    def do_send(self, house):
        self.road += self.house(house).letters()

    def do_carry(self, number):
        for _ in range(min(number, len(self.road))):
            letter = self.road.pop(0)
            self.road += self.hear(letter)

    def do_lose(self, number):
        self.road = [letter for k, letter in enumerate(self.road) if k != number]

    def do_twice(self, number):
        for letter in [letter for k, letter in enumerate(self.road) if k == number]:
            self.road += self.hear(letter)

    def do_settle(self):
        self.drain(self.road)
        self.road = []
        number = 1
        while number:
            number = 0
            for house in self.houses:
                letters = house.letters()
                number += len(letters)
                self.drain(letters)

    def drain(self, letters):
        queue = list(letters)
        for letter in queue:
            queue += self.hear(letter)

    def hear(self, letter):
        house = self.houses[letter[0]]
        came, marks = house.came(), [mark for mark, _ in house.notes()]
        answers = house.hear(letter)
        fresh = [mark for mark in house.came() if mark not in came]
        left = [mark for mark, _ in house.notes()]
        self.log += [("come", letter[0], mark) for mark in fresh]
        self.log += [("go", letter[0], mark) for mark in sorted(marks) if mark not in left]
        return answers
