"""Points 7 to 9: what holds of all houses together, in plays of many steps."""

import random
import unittest

from tests.town import Town, joined


def some_ties(chance, many, share):
    """Each pair of houses, with a chance of share in ten."""
    return [(one, other) for one in range(many) for other in range(one)
            if chance.randrange(10) < share]


def wild_step(chance, town):
    """One step of any kind; letters are lost, late, heard twice, in any order."""
    kind = chance.randrange(18)
    house = chance.randrange(town.many)
    other = chance.choice([each for each in range(town.many) if each != house])
    if kind == 0:
        town.write(house, chance.randrange(1000), chance.choice([1, 5, 10, 30]))
    elif kind == 1 and town.written and chance.randrange(2):
        town.call_back(chance.choice(sorted(town.written)))
    elif kind == 2 and chance.randrange(2):
        town.day(house, town.days[house] + chance.choice([1, 1, 2, 4]))
    elif kind == 3:
        chance.choice([town.tie, town.tie, town.tie_one_way])(house, other)
    elif kind == 4:
        town.untie(house, other)
    elif kind in (5, 6):
        town.road += town.told(house)
    elif town.road:
        # Late ones as well as the latest, else hardly any answer is heard.
        k = chance.randrange(chance.choice([0, max(0, len(town.road) - 4)]), len(town.road))
        if kind == 7 and chance.randrange(2):
            del town.road[k]
        elif kind == 8:
            town.road += town.hear(town.road[k])
        else:
            town.road += town.hear(town.road.pop(k))


class AnyPlay(unittest.TestCase):
    def test_point_7_at_each_event(self):
        came = 0
        for seed in range(120):
            chance = random.Random(seed)
            town = Town(self, chance.randint(2, 8) if seed % 2 else chance.randint(2, 3))
            for one, other in some_ties(chance, town.many, 7):
                town.tie(one, other)
            for _ in range(150):
                wild_step(chance, town)
            came += sum(town.copies)
        self.assertGreater(came, 500)

    def test_old_letters_bring_nothing_back(self):
        for seed in range(40):
            chance = random.Random(seed)
            town = Town(self, 3)
            for one, other in ((0, 1), (1, 2), (0, 2)):
                town.tie(one, other)
            heard = []
            for house in range(3):
                for _ in range(3):
                    town.write(house, chance.randrange(1000), chance.randint(1, 6))
            for _ in range(2):
                for house in range(3):
                    queue = town.told(house)
                    while queue:
                        heard.append(queue[0])
                        queue += town.hear(queue.pop(0))
            for mark in sorted(town.written)[::2]:
                town.call_back(mark)
            town.calm_round()
            for house in range(3):
                town.day(house, 3)
            for parcel in heard + heard[::-1]:
                town.hear(parcel)
            expected = [(mark, town.written[mark][0]) for mark in sorted(town.written)
                        if mark not in town.called_back and town.written[mark][1] > 3]
            for house in town.houses:
                self.assertEqual(house.notes(), expected)


class AtRest(unittest.TestCase):
    def check_rest(self, town):
        """Point 8, from the state that the town is in."""
        for one, other in sorted(town.ties):
            town.tie(one, other)
        town.clear_road()
        groups = joined(town.many, town.ties)
        wanted = [self.same_notes(town, group) for group in groups]
        for _ in range(town.many):
            town.calm_round()
        self.assertEqual(town.calm_round(), 0)
        for group, notes in zip(groups, wanted):
            if len({town.days[house] for house in group}) == 1:
                for house in group:
                    self.assertEqual(town.houses[house].notes(), notes)

    def same_notes(self, town, group):
        """What point 8 says that the joined houses of a group have, if their days are alike."""
        marks = {mark for house in group for mark in town.houses[house].came()}
        backs = {mark for house in group for mark in town.heard_back[house]}
        last = max(town.days[house] for house in group)
        return [(mark, town.written[mark][0]) for mark in sorted(marks - backs)
                if town.written[mark][1] > last]

    def even_days(self, town):
        last = max(town.days)
        for house in range(town.many):
            if town.days[house] < last:
                town.day(house, last)

    def test_point_8_with_days_alike(self):
        for seed in range(150):
            chance = random.Random(1000 + seed)
            town = Town(self, chance.randint(2, 8))
            for one, other in some_ties(chance, town.many, 6):
                town.tie(one, other)
            for _ in range(120):
                wild_step(chance, town)
            self.even_days(town)
            for house in range(0, town.many, 2):
                town.write(house, 7, 5)
            self.check_rest(town)

    def test_point_8_with_days_unlike(self):
        for seed in range(100):
            chance = random.Random(2000 + seed)
            town = Town(self, chance.randint(2, 8))
            for _ in range(120):
                wild_step(chance, town)
            self.check_rest(town)

    def test_point_8_on_a_line_against_the_order_of_turns(self):
        for many in range(2, 9):
            town = Town(self, many)
            for house in range(1, many):
                town.tie(house - 1, house)
            town.write(many - 1, 7, 5)
            mark = town.write(many - 1, 8, 5)
            self.check_rest(town)
            town.call_back(mark)
            town.write(many - 1, 9, 5)
            self.check_rest(town)
            for house in town.houses:
                self.assertEqual(house.notes(), [((many - 1, 0), 7), ((many - 1, 2), 9)])

    def test_a_house_that_is_ahead_does_not_stop_a_call_back(self):
        town = Town(self, 3)
        town.tie(0, 1)
        town.tie(1, 2)
        mark = town.write(0, 7, 5)
        self.check_rest(town)
        town.day(1, 5)
        town.call_back(mark)
        self.check_rest(town)
        self.assertEqual(town.houses[2].notes(), [])

    def test_tied_after_the_writer_is_cut_off(self):
        town = Town(self, 4)
        town.tie(0, 1)
        kept = town.write(0, 1, 9)
        called = town.write(0, 2, 9)
        self.check_rest(town)
        town.call_back(called)
        town.untie(0, 1)
        town.tie(1, 2)
        town.tie(2, 3)
        self.check_rest(town)
        for house in (1, 2, 3):
            self.assertEqual(town.houses[house].notes(), [(kept, 1), (called, 2)])
        town.tie(0, 3)
        self.check_rest(town)
        for house in range(4):
            self.assertEqual(town.houses[house].notes(), [(kept, 1)])


class CalmFromTheFirst(unittest.TestCase):
    def check_copies(self, town):
        for number, house in enumerate(town.houses):
            others = [mark for mark in house.came() if mark[0] != number]
            self.assertEqual(house.copies(), len(others))

    def calm_step(self, chance, town):
        kind = chance.randrange(8)
        house = chance.randrange(town.many)
        other = chance.choice([each for each in range(town.many) if each != house])
        if kind < 3:
            town.write(house, chance.randrange(1000), chance.choice([1, 3, 30]))
        elif kind == 3 and town.written:
            town.call_back(chance.choice(sorted(town.written)))
        elif kind == 4:
            town.day(house, town.days[house] + 1)
        elif kind == 5:
            town.tie(house, other)
        elif kind == 6:
            town.untie(house, other)
        else:
            town.calm_round()
            self.check_copies(town)

    def test_point_9(self):
        copies = 0
        for seed in range(100):
            chance = random.Random(3000 + seed)
            town = Town(self, chance.randint(2, 8))
            for one, other in some_ties(chance, town.many, 8):
                town.tie(one, other)
            for _ in range(60):
                self.calm_step(chance, town)
            for _ in range(town.many):
                town.calm_round()
            self.check_copies(town)
            self.assertEqual(town.calm_round(), 0)
            copies += sum(town.copies)
        self.assertGreater(copies, 500)

    def test_point_9_where_all_are_tied_to_all(self):
        town = Town(self, 8)
        for one, other in some_ties(random.Random(0), 8, 10):
            town.tie(one, other)
        for house in range(8):
            town.write(house, house, 5)
        for _ in range(8):
            town.calm_round()
        self.assertEqual(town.copies, [7] * 8)
        self.check_copies(town)


if __name__ == "__main__":
    unittest.main()
