"""Point 15, and point 1 of it: plays, and steps as texts."""

import copy
import random
import unittest

from newsflood.errors import BadHouse, BadText, NewsError
from newsflood.plays import played, read, written
from newsflood.world import World

COUNTS = {"write": 3, "back": 2, "day": 2, "days": 1, "tie": 2, "untie": 2, "send": 1, "carry": 1,
          "lose": 1, "twice": 1, "settle": 0}

STEPS = [("tie", 0, 1), ("tie", 2, 1), ("write", 0, 7, 5), ("write", 3, 7, 5), ("write", 1, 999, 30),
         ("settle",), ("back", 0, 0), ("back", 1, 7), ("send", 0), ("twice", 0), ("lose", 0),
         ("carry", 9), ("day", 0, 3), ("day", 0, 3), ("days", 10001), ("days", 3), ("untie", 1, 1),
         ("untie", 0, 1), ("settle",)]
TEXT = """tie 0 1
tie 2 1
write 0 7 5
write 3 7 5
write 1 999 30
settle
back 0 0
back 1 7
send 0
twice 0
lose 0
carry 9
day 0 3
day 0 3
days 10001
days 3
untie 1 1
untie 0 1
settle"""


def state(world):
    return world.shown(), world.waits(), world.log()


def some_step(chance):
    """A step by its word and count of numbers, of one to five figures."""
    word = chance.choice(sorted(COUNTS))
    numbers = [chance.randrange(10 ** chance.randint(1, 5)) for _ in range(COUNTS[word])]
    return (word, *numbers)


class Played(unittest.TestCase):
    def test_no_steps(self):
        told = played(3, [])
        self.assertIs(type(told), tuple)
        self.assertEqual(told[0], [])
        self.assertIs(type(told[1]), World)
        self.assertEqual(state(told[1]), state(World(3)))

    def test_what_each_step_tells(self):
        told, _ = played(3, STEPS)
        self.assertEqual(told, [None, None, (0, 0), "no", (1, 0), None, None, "no", None, None, None,
                                None, None, "no", "no", None, "no", None, None])

    def check_against_a_world(self, many, steps):
        before = copy.deepcopy(steps)
        told, play = played(many, steps)
        self.assertEqual(steps, before)
        world = World(many)
        for step, each in zip(steps, told):
            try:
                self.assertEqual(world.do(step), each)
            except NewsError:
                self.assertEqual(each, "no")
        self.assertEqual(len(told), len(steps))
        self.assertEqual(state(play), state(world))
        for step in (("write", 0, 1, 30), ("tie", 0, 1), ("send", 0), ("carry", 5), ("settle",)):
            self.assertEqual(play.do(step), world.do(step))
            self.assertEqual(state(play), state(world))

    def test_against_a_world_that_does_the_same(self):
        self.check_against_a_world(3, STEPS)
        for seed in range(100):
            chance = random.Random(seed)
            many = chance.randint(2, 8)
            steps = [("tie", house, house + 1) for house in range(many - 1)]
            for _ in range(30):
                word = chance.choice(sorted(COUNTS))
                steps.append((word, *[chance.randrange(many + 1) for _ in range(COUNTS[word])]))
            self.check_against_a_world(many, steps)

    def test_each_play_has_its_own_world(self):
        first = played(3, STEPS)
        second = played(3, STEPS)
        before = state(second[1])
        first[0].clear()
        first[1].do(("write", 0, 1, 30))
        self.assertEqual(state(second[1]), before)
        self.assertEqual(played(3, STEPS)[0], second[0])

    def test_refused_counts(self):
        for many in (1, 9, 0, -1, 10 ** 9, True):
            for steps in ([], STEPS):
                with self.subTest(many), self.assertRaises(BadHouse) as caught:
                    played(many, steps)
                self.assertIs(type(caught.exception), BadHouse)


class Texts(unittest.TestCase):
    def refuses(self, text, row):
        with self.assertRaises(BadText) as caught:
            read(text)
        self.assertIs(type(caught.exception), BadText)
        self.assertEqual(caught.exception.row, row)

    def test_no_steps(self):
        self.assertEqual(written([]), "")
        self.assertEqual(read(""), [])

    def test_written_and_read(self):
        steps = list(STEPS)
        self.assertEqual(written(steps), TEXT)
        self.assertEqual(steps, STEPS)
        self.assertEqual(read(TEXT), STEPS)
        for step in read(TEXT):
            self.assertIs(type(step), tuple)

    def test_a_single_row(self):
        for word, count in COUNTS.items():
            step = (word, *[0, 10, 99999][:count])
            self.assertEqual(written([step]), " ".join(map(str, step)))
            self.assertEqual(read(written([step])), [step])

    def test_numbers_of_one_to_five_figures(self):
        for number in (0, 1, 9, 10, 11, 99, 100, 101, 999, 1000, 9999, 10000, 12345, 99999):
            self.assertEqual(read(f"carry {number}"), [("carry", number)])
            self.assertEqual(read(written([("day", number, number)])), [("day", number, number)])

    def test_any_steps_are_read_to_the_same(self):
        for seed in range(300):
            chance = random.Random(seed)
            steps = [some_step(chance) for _ in range(chance.randrange(12))]
            self.assertEqual(read(written(steps)), steps)

    def test_what_is_told_may_be_changed(self):
        told = read(TEXT)
        told.reverse()
        told.pop()
        self.assertEqual(read(TEXT), STEPS)

    def test_rows_that_are_no_steps_at_each_place(self):
        for row in self.wrong_rows():
            with self.subTest(row=row):
                if row:
                    self.refuses(row, 0)
                self.refuses(row + "\nsettle", 0)
                self.refuses("settle\n" + row, 1)
                self.refuses("settle\ncarry 1\n" + row + "\nsettle", 2)
                self.refuses("settle\n" + row + "\n" + row + "\nno", 1)

    def wrong_rows(self):
        rows = ["", " ", "  ", "0", "no", "Settle", "SETTLE", "settl", "settled", "come 0 0", "go 0 0",
                "write", "carry", "1 carry", "carry carry", "carry x", "carry 1x", "carry 1,", "carry,1",
                "carry1", "carry 1 1", "settle 0", "tie 0", "tie 0 1 2", "write 0 7", "write 0 7 5 5",
                "back 0", "back (0, 0)", "('carry', 1)", "tie 0 1\r", "settle\r", "settle\t", "\tsettle",
                "carry\t1", "tie 0\t1", "settle\x0b", "settle\x0csettle", "settle\x1csettle",
                "settle\u2028settle", "settle\x85", "carry\u00a01", "carry 1.0", "carry 1e1",
                "carry 0x1", "carry 1_0", "carry None", "carry True"]
        rows += ["carry " + number for number in
                 ("00", "01", "007", "0000", "00000", "00001", "000000", "000001", "100000", "123456", "1" * 40,
                  "-1", "-0", "+1", "+0", "--1", "1-", "-", "+",
                  "\u0661", "\u00b2", "\uff11", "1\u0661")]
        rows += ["tie 0  1", "tie  0 1", " tie 0 1", "tie 0 1 ", "carry  1", "carry ", " carry 1", "settle ",
                 " settle", "settle  ", "tie 0 ", "tie  1"]
        rows += ["write 0 7 05", "write 00 7 5", "write 0 123456 5", "day 0 -1", "day -1 0"]
        for word, count in COUNTS.items():
            rows += [" ".join([word] + ["1"] * other) for other in range(6) if other != count]
        return rows

    def test_line_ends(self):
        self.refuses("\n", 0)
        self.refuses("settle\n", 1)
        self.refuses("\nsettle", 0)
        self.refuses("settle\n\nsettle", 1)
        self.refuses("settle\nsettle\n", 2)
        self.refuses("settle\r\nsettle", 0)
        self.refuses(TEXT + "\n", len(STEPS))

    def test_numbers_beyond_all_bounds_of_deeds_are_read(self):
        steps = [("write", 99999, 99999, 99999), ("tie", 0, 0), ("days", 99999), ("tie", 9, 9)]
        self.assertEqual(read(written(steps)), steps)
        self.assertEqual(played(2, steps)[0], ["no"] * 4)


if __name__ == "__main__":
    unittest.main()
