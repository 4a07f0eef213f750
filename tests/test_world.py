"""Points 13 and 14, and point 1 of them: worlds, their steps, road and log."""

import copy
import random
import unittest

from newsflood.errors import BadDay, BadHouse, BadLife, BadWorth, NewsError, NotOwn
from newsflood.judging import judged
from newsflood.world import World
from tests.mirror import Mirror
from tests.town import joined

NEVER = (0, [], [], 0)


def state(world):
    return world.shown(), world.waits(), world.log()


def done(many, *steps):
    """A world that did steps, none of which is refused."""
    world = World(many)
    for step in steps:
        world.do(step)
    return world


def line(many):
    return [("tie", house, house + 1) for house in range(many - 1)]


def some_step(chance, many):
    """One step of any kind, some of them refused."""
    house = chance.randrange(many + (chance.randrange(12) == 0))
    other = chance.randrange(many)
    return chance.choice([
        ("write", house, chance.choice([0, 7, 999, 1000]), chance.choice([1, 3, 9, 30, 31])),
        ("write", house, chance.randrange(1000), chance.randint(2, 30)),
        ("back", house, chance.randrange(4)),
        ("day", house, chance.randrange(8)),
        ("days", chance.randrange(6)),
        ("tie", house, other),
        ("tie", house, other),
        ("untie", house, other),
        ("send", house),
        ("send", house),
        ("send", house),
        ("carry", chance.randrange(6)),
        ("carry", chance.randrange(6)),
        ("carry", 99),
        ("lose", chance.randrange(6)),
        ("twice", chance.randrange(6)),
    ] + [("settle",)] * (chance.randrange(8) == 0))


class Worlds(unittest.TestCase):
    def refuses(self, error, world, step):
        """Refused with just this class, and with nothing changed, also not for later."""
        before = state(world)
        trial = copy.deepcopy(world)
        with self.assertRaises(error) as caught:
            world.do(step)
        self.assertIs(type(caught.exception), error)
        self.assertIsInstance(caught.exception, (NewsError, ValueError))
        self.assertEqual(state(world), before)
        later = copy.deepcopy(world)
        for each in (later, trial):
            each.do(("write", 0, 1, 30))
            each.do(("settle",))
        self.assertEqual(state(later), state(trial))

    def test_new_worlds(self):
        for many in range(2, 9):
            self.assertEqual(state(World(many)), ([NEVER] * many, 0, []))

    def test_refused_counts(self):
        for many in (1, 9, 0, -1, -8, 100, 10 ** 9, True):
            with self.subTest(many), self.assertRaises(BadHouse) as caught:
                World(many)
            self.assertIs(type(caught.exception), BadHouse)

    def test_write(self):
        world = World(3)
        self.assertEqual(world.do(("write", 1, 7, 5)), (1, 0))
        self.assertEqual(world.do(("write", 1, 0, 30)), (1, 1))
        self.assertEqual(world.do(("write", 2, 999, 1)), (2, 0))
        self.assertEqual(world.shown(), [NEVER, (0, [((1, 0), 7), ((1, 1), 0)], [(1, 0), (1, 1)], 0),
                                         (0, [((2, 0), 999)], [(2, 0)], 0)])
        self.assertEqual(world.log(), [("write", 1, (1, 0), 5), ("write", 1, (1, 1), 30),
                                       ("write", 2, (2, 0), 1)])
        for house in (-1, 3, 99, True):
            self.refuses(BadHouse, world, ("write", house, 7, 5))
        for worth in (-1, 1000, 10 ** 9, True):
            self.refuses(BadWorth, world, ("write", 0, worth, 5))
        for life in (0, -1, 31, 10 ** 9, True):
            self.refuses(BadLife, world, ("write", 0, 7, life))
        self.refuses(BadHouse, world, ("write", 3, 1000, 31))
        self.refuses(BadWorth, world, ("write", 0, 1000, 31))
        self.assertEqual(world.do(("write", 1, 7, 5)), (1, 2))

    def test_all_others_tell_none(self):
        steps = line(3) + [("day", 0, 1), ("days", 2), ("send", 0), ("twice", 0), ("carry", 1),
                           ("lose", 0), ("back", 0, 0), ("settle",), ("untie", 0, 1)]
        world = done(3, ("write", 0, 7, 5))
        for step in steps:
            self.assertIsNone(world.do(step))

    def test_back(self):
        world = done(2, ("write", 0, 7, 5), ("write", 0, 8, 5), ("back", 0, 0))
        self.assertEqual(world.shown(), [(0, [((0, 1), 8)], [(0, 0), (0, 1)], 0), NEVER])
        self.assertEqual(world.log()[2:], [("back", (0, 0)), ("go", 0, (0, 0))])
        for house in (-1, 2, 99, True):
            self.refuses(BadHouse, world, ("back", house, 0))
        for number in (-1, 2, 10 ** 9, True, (0, 0)):
            self.refuses(NotOwn, world, ("back", 0, number))
        self.refuses(NotOwn, world, ("back", 1, 0))
        self.refuses(BadHouse, world, ("back", 2, 99))

    def test_back_when_nothing_comes_of_it(self):
        world = done(2, ("write", 0, 7, 5), ("back", 0, 0), ("back", 0, 0))
        self.assertEqual(world.log()[1:], [("back", (0, 0)), ("go", 0, (0, 0)), ("back", (0, 0))])
        world = done(2, ("tie", 0, 1), ("write", 0, 7, 5), ("settle",), ("day", 0, 5), ("back", 0, 0),
                     ("settle",))
        self.assertEqual(world.log()[2:], [("day", 0, 5), ("back", (0, 0))])
        self.assertEqual(world.shown()[1][1], [((0, 0), 7)])

    def test_day(self):
        world = done(2, ("write", 0, 7, 5), ("write", 0, 8, 6), ("day", 0, 5))
        self.assertEqual(world.shown(), [(5, [((0, 1), 8)], [(0, 0), (0, 1)], 0), NEVER])
        self.assertEqual(world.log()[2:], [("day", 0, 5)])
        for house in (-1, 2, 99, True):
            self.refuses(BadHouse, world, ("day", house, 9))
        for day in (5, 4, 0, -1, 10001, 10 ** 9, True):
            self.refuses(BadDay, world, ("day", 0, day))
        self.refuses(BadHouse, world, ("day", 2, 10001))
        world.do(("day", 0, 10000))
        self.refuses(BadDay, world, ("day", 0, 10000))
        self.refuses(BadDay, world, ("day", 0, 10001))
        self.assertEqual([each[0] for each in world.shown()], [10000, 0])

    def test_days(self):
        world = done(4, ("day", 1, 5), ("day", 3, 4), ("days", 4))
        self.assertEqual([each[0] for each in world.shown()], [4, 5, 4, 4])
        self.assertEqual(world.log()[2:], [("day", 0, 4), ("day", 2, 4)])
        before = state(world)
        for day in (4, 3, 0, -1, -99):
            self.assertIsNone(world.do(("days", day)))
            self.assertEqual(state(world), before)
        for day in (10001, 10002, 10 ** 9):
            self.refuses(BadDay, world, ("days", day))
        world.do(("days", 10000))
        self.assertEqual([each[0] for each in world.shown()], [10000] * 4)
        self.assertEqual(world.log()[4:], [("day", house, 10000) for house in range(4)])
        world.do(("days", 10000))
        self.assertEqual(len(world.log()), 8)
        self.refuses(BadDay, world, ("days", 10001))

    def test_days_end_notes(self):
        world = done(2, ("write", 0, 7, 5), ("write", 1, 8, 6), ("days", 5))
        self.assertEqual(world.shown(), [(5, [], [(0, 0)], 0), (5, [((1, 0), 8)], [(1, 0)], 0)])

    def test_ties_go_both_ways(self):
        for tie in (("tie", 0, 1), ("tie", 1, 0)):
            world = done(2, ("write", 0, 7, 5), ("write", 1, 8, 5), tie, ("settle",))
            both = [((0, 0), 7), ((1, 0), 8)]
            self.assertEqual([each[1] for each in world.shown()], [both, both])
            for untie in (("untie", 0, 1), ("untie", 1, 0)):
                cut = copy.deepcopy(world)
                cut.do(("write", 0, 9, 5))
                cut.do(("write", 1, 9, 5))
                cut.do(untie)
                cut.do(("send", 0))
                cut.do(("send", 1))
                self.assertEqual(cut.waits(), 0)
                cut.do(("settle",))
                self.assertEqual([len(each[1]) for each in cut.shown()], [3, 3])
        self.assertEqual(len(world.log()), 4)

    def test_refused_ties(self):
        world = done(3, ("write", 0, 7, 5), ("tie", 0, 1))
        for word in ("tie", "untie"):
            for one, other in ((-1, 0), (0, -1), (3, 0), (0, 3), (99, 0), (0, 99), (0, 0), (2, 2),
                               (3, 3), (-1, -1), (True, 0), (0, True)):
                self.refuses(BadHouse, world, (word, one, other))
        world.do(("untie", 1, 2))
        world.do(("tie", 1, 0))
        world.do(("settle",))
        self.assertEqual([each[1] for each in world.shown()], [[((0, 0), 7)], [((0, 0), 7)], []])

    def test_send(self):
        world = done(3, ("send", 0), ("tie", 0, 1), ("tie", 0, 2), ("send", 0))
        self.assertEqual(world.waits(), 0)
        world.do(("write", 0, 7, 5))
        world.do(("send", 1))
        self.assertEqual(world.waits(), 0)
        world.do(("send", 0))
        number = world.waits()
        self.assertGreaterEqual(number, 2)
        # It isn't known to have come, so it is told again.
        world.do(("send", 0))
        self.assertEqual(world.waits(), 2 * number)
        self.assertEqual(world.shown()[1:], [NEVER, NEVER])
        self.assertEqual(len(world.log()), 1)
        for house in (-1, 3, 99, True):
            self.refuses(BadHouse, world, ("send", house))
        world.do(("settle",))
        world.do(("send", 0))
        self.assertEqual(world.waits(), 0)

    def test_carry_till_all_is_heard(self):
        world = done(2, ("tie", 0, 1), ("write", 0, 7, 5), ("send", 0))
        for _ in range(20):
            world.do(("carry", 1))
        self.assertEqual(world.waits(), 0)
        self.assertEqual(world.shown()[1], (0, [((0, 0), 7)], [(0, 0)], 1))
        self.assertEqual(world.log(), [("write", 0, (0, 0), 5), ("come", 1, (0, 0))])

    def test_carry_hears_no_answer_that_it_laid(self):
        world = done(2, ("tie", 0, 1), ("write", 0, 7, 5), ("send", 0))
        mirror = Mirror(2)
        for step in (("tie", 0, 1), ("write", 0, 7, 5), ("send", 0)):
            mirror.do(step)
        laid = mirror.road
        self.assertEqual(world.waits(), len(laid))
        world.do(("carry", 99))
        answers = []
        for letter in laid:
            answers += mirror.houses[1].hear(letter)
        self.assertEqual(world.waits(), len(answers))
        self.assertGreater(len(answers), 0)
        self.assertEqual(world.shown()[1], (0, mirror.houses[1].notes(), mirror.houses[1].came(),
                                            mirror.houses[1].copies()))

    def test_carry_none(self):
        world = done(2, ("tie", 0, 1), ("write", 0, 7, 5))
        world.do(("carry", 3))
        world.do(("send", 0))
        before = state(world)
        for number in (0, -1, -99):
            world.do(("carry", number))
            self.assertEqual(state(world), before)

    def test_carry_the_first_ones(self):
        world = done(3, ("tie", 0, 1), ("tie", 0, 2), ("write", 0, 7, 5), ("send", 0))
        number = world.waits()
        for _ in range(number - 1):
            world.do(("lose", 1))
        self.assertEqual(world.waits(), 1)
        world.do(("send", 0))
        self.assertEqual(world.waits(), 1 + number)

    def test_lose(self):
        world = done(2, ("tie", 0, 1), ("write", 0, 7, 5), ("send", 0), ("send", 0))
        number = world.waits()
        before = state(world)
        for k in (number, number + 1, 10 ** 9, -1, -number, -99):
            world.do(("lose", k))
            self.assertEqual(state(world), before)
        for left in range(number - 1, -1, -1):
            world.do(("lose", left))
            self.assertEqual(world.waits(), left)
        world.do(("lose", 0))
        world.do(("carry", 9))
        self.assertEqual(world.shown()[1], NEVER)
        world.do(("settle",))
        self.assertEqual(world.shown()[1], (0, [((0, 0), 7)], [(0, 0)], 1))

    def test_twice(self):
        world = done(2, ("tie", 0, 1), ("write", 0, 7, 5), ("twice", 0), ("send", 0))
        number = world.waits()
        before = state(world)
        for k in (number, number + 1, 10 ** 9, -1, -number, -99):
            world.do(("twice", k))
            self.assertEqual(state(world), before)
        # Each letter is heard again and again till nothing new comes of any of them.
        for k in range(12):
            world.do(("twice", k))
        self.assertGreaterEqual(world.waits(), number)
        self.assertEqual(world.shown()[1][:3], (0, [((0, 0), 7)], [(0, 0)]))
        self.assertEqual(world.log(), [("write", 0, (0, 0), 5), ("come", 1, (0, 0))])

    def test_settle(self):
        for many in range(2, 9):
            world = done(many, ("settle",), *line(many), ("settle",))
            self.assertEqual(state(world), ([NEVER] * many, 0, []))
            for house in range(many):
                world.do(("write", house, house, 5))
            world.do(("settle",))
            notes = [((house, 0), house) for house in range(many)]
            for house, (day, there, came, copies) in enumerate(world.shown()):
                self.assertEqual((day, there, copies), (0, notes, many - 1))
                self.assertEqual(sorted(came), [mark for mark, _ in notes])
                self.assertEqual(came[0], (house, 0))
            self.assertEqual(world.waits(), 0)
            before = state(world)
            world.do(("settle",))
            for house in range(many):
                world.do(("send", house))
            self.assertEqual(state(world), before)

    def test_settle_hears_what_lies_on_the_road(self):
        world = done(2, ("tie", 0, 1), ("write", 0, 7, 5), ("send", 0), ("carry", 1), ("carry", 1),
                     ("untie", 0, 1))
        self.assertEqual((world.waits(), world.shown()[1]), (1, NEVER))
        world.do(("settle",))
        self.assertEqual((world.waits(), world.shown()[1]), (0, (0, [((0, 0), 7)], [(0, 0)], 1)))

    def test_unknown_steps_change_nothing(self):
        world = done(2, ("tie", 0, 1), ("write", 0, 7, 5), ("send", 0))
        for step in ((), ("",), ("stay",), ("write", 0, 7), ("settle", 0), ("carry",), ("tie", 0, 1, 1)):
            self.refuses(NewsError, world, step)

    def test_what_is_told_may_be_changed(self):
        steps = line(3) + [("write", 0, 7, 5), ("write", 1, 8, 5), ("settle",), ("back", 0, 0), ("send", 0)]
        world = done(3, *steps)
        before = copy.deepcopy(state(world))
        self.assertEqual(state(world), before)
        shown = world.shown()
        for _, notes, came, _ in shown:
            notes.append("more")
            came.reverse()
            del came[0]
        shown.clear()
        rows = world.log()
        rows.insert(0, "more")
        rows.pop()
        self.assertEqual(state(world), before)
        world.do(("settle",))
        self.assertEqual([each[1] for each in world.shown()], [[((1, 0), 8)]] * 3)

    def test_steps_are_unchanged_and_not_kept(self):
        step = ("write", 0, 7, 5)
        world = done(2, step, step)
        self.assertEqual(step, ("write", 0, 7, 5))
        self.assertEqual(world.log(), [("write", 0, (0, 0), 5), ("write", 0, (0, 1), 5)])


class Kinds(unittest.TestCase):
    def test_kinds_of_what_is_told(self):
        world = done(2, ("tie", 0, 1), ("write", 0, 7, 5), ("settle",), ("back", 0, 0), ("settle",))
        self.assertIs(type(world.shown()), list)
        for each in world.shown():
            self.assertEqual([type(part) for part in each], [int, list, list, int])
            self.assertIs(type(each), tuple)
        self.assertIs(type(world.log()), list)
        for row in world.log():
            self.assertIs(type(row), tuple)
        self.assertIs(type(world.waits()), int)


class Log(unittest.TestCase):
    def test_come_and_go_in_a_calm(self):
        world = done(3, *line(3), ("write", 0, 7, 5), ("settle",))
        self.assertEqual(world.log(), [("write", 0, (0, 0), 5), ("come", 1, (0, 0)), ("come", 2, (0, 0))])
        world.do(("back", 0, 0))
        world.do(("settle",))
        self.assertEqual(world.log()[3:], [("back", (0, 0)), ("go", 0, (0, 0)), ("go", 1, (0, 0)),
                                           ("go", 2, (0, 0))])

    def test_come_in_the_order_of_came(self):
        world = done(2, ("tie", 0, 1), ("write", 0, 7, 5), ("settle",), ("write", 1, 8, 5),
                     ("write", 0, 9, 5), ("write", 0, 1, 5), ("settle",))
        for number, (_, _, came, _) in enumerate(world.shown()):
            rows = [row[2] for row in world.log() if row[0] in ("write", "come") and row[1] == number]
            self.assertEqual(rows, came)

    def test_go_in_the_order_of_marks(self):
        world = done(2, ("tie", 0, 1), *[("write", 0, k, 5) for k in range(12)], ("settle",))
        numbers = [5, 11, 2, 10, 0, 7]
        for number in numbers:
            world.do(("back", 0, number))
        before = len(world.log())
        world.do(("settle",))
        self.assertEqual(world.log()[before:], [("go", 1, (0, number)) for number in sorted(numbers)])

    def test_nothing_comes_about_by_ties_and_the_road(self):
        world = done(2, ("tie", 0, 1), ("write", 0, 7, 5))
        for step in (("send", 0), ("lose", 0), ("untie", 0, 1), ("tie", 0, 1), ("send", 1)):
            world.do(step)
            self.assertEqual(world.log(), [("write", 0, (0, 0), 5)])

    def test_an_end_is_no_go(self):
        world = done(2, ("tie", 0, 1), ("write", 0, 7, 5), ("settle",), ("days", 5), ("settle",))
        self.assertEqual(world.log()[2:], [("day", 0, 5), ("day", 1, 5)])

    def test_a_call_back_heard_where_it_never_came_is_no_go(self):
        world = done(2, ("write", 0, 7, 5), ("back", 0, 0), ("tie", 0, 1), ("settle",))
        self.assertEqual(world.log(), [("write", 0, (0, 0), 5), ("back", (0, 0)), ("go", 0, (0, 0))])
        self.assertEqual(world.shown()[1], NEVER)


class ManyPlays(unittest.TestCase):
    def setUp(self):
        self.counts = {}

    def count(self, word):
        self.counts[word] = self.counts.get(word, 0) + 1

    def told(self, world, step):
        try:
            return world.do(step)
        except NewsError as error:
            self.count(type(error).__name__)
            return type(error)

    def check_log(self, world, before):
        """The rows of a step, against what is shown ahead of it and behind it."""
        shown, rows = before[0], world.log()
        self.assertEqual(rows[:len(before[2])], before[2])
        self.assertIsNone(judged(rows))
        for number, (day, notes, came, _) in enumerate(world.shown()):
            own = [row for row in rows[len(before[2]):] if row[0] != "back" and row[1] == number]
            fresh = [row[2] for row in own if row[0] in ("write", "come")]
            self.assertEqual(came, shown[number][2] + fresh)
            self.assertEqual([row[2] for row in own if row[0] == "day"],
                             [day] if day != shown[number][0] else [])
            gone = sorted(row[2] for row in own if row[0] == "go")
            left = {mark for mark, _ in notes}
            # A note may come and go in one step, in which many letters are heard.
            had = [mark for mark, _ in shown[number][1]] + fresh
            if day == shown[number][0]:
                self.assertEqual(gone, sorted(mark for mark in had if mark not in left))
            else:
                self.assertEqual(gone, [])

    def test_against_the_mirror(self):
        for seed in range(150):
            chance = random.Random(seed)
            many = chance.randint(2, 8) if seed % 3 == 0 else chance.randint(2, 3)
            world, mirror = World(many), Mirror(many)
            for step in line(many) + [some_step(chance, many) for _ in range(60)]:
                before = state(world)
                told = self.told(world, step)
                self.assertEqual(told, self.told(mirror, step))
                self.assertEqual(state(world), (mirror.shown(), len(mirror.road), mirror.log))
                if isinstance(told, type):
                    self.assertEqual(state(world), before)
                self.check_log(world, before)
            for row in world.log():
                self.count(row[0])
        for word in ("BadHouse", "BadDay", "BadWorth", "BadLife", "NotOwn", "come", "go", "back", "write", "day"):
            self.assertGreater(self.counts.get(word, 0), 60, word)

    def test_at_rest_behind_any_steps(self):
        for seed in range(150):
            chance = random.Random(5000 + seed)
            many = chance.randint(2, 8)
            world = World(many)
            ties = set()
            for step in line(many) + [some_step(chance, many) for _ in range(60)]:
                if self.told(world, step) is None and step[0] in ("tie", "untie"):
                    ties = ties - {step[1:], step[:0:-1]} | ({step[1:]} if step[0] == "tie" else set())
            world.do(("days", 8))
            world.do(("settle",))
            self.assertEqual(world.waits(), 0)
            for group in joined(many, ties):
                notes = [world.shown()[house][1] for house in group]
                self.assertEqual(notes, [notes[0]] * len(group))
            self.assertIsNone(judged(world.log()))

    def test_calm_from_the_first_note_on(self):
        for seed in range(80):
            chance = random.Random(6000 + seed)
            many = chance.randint(2, 8)
            world = World(many)
            for _ in range(40):
                step = some_step(chance, many)
                if step[0] not in ("send", "carry", "lose", "twice"):
                    self.told(world, step)
                    self.told(world, ("settle",))
            for number, (_, _, came, copies) in enumerate(world.shown()):
                self.assertEqual(copies, len([mark for mark in came if mark[0] != number]))
            self.assertIsNone(judged(world.log()))


if __name__ == "__main__":
    unittest.main()
