"""Point 12, and point 1 of it: judged."""

import copy
import random
import unittest

from newsflood.errors import BadRow
from newsflood.judging import judged

MARK = (0, 0)
WRITTEN = [("write", 0, MARK, 5)]

# Behind each list of rows a row that can come about.
CAN = (
    ([], ("day", 0, 1)),
    ([], ("day", 7, 10000)),
    ([("day", 3, 9)], ("day", 3, 10)),
    ([("day", 3, 9)], ("day", 2, 1)),
    ([], ("write", 0, (0, 0), 1)),
    ([], ("write", 7, (7, 0), 30)),
    (WRITTEN, ("write", 0, (0, 1), 5)),
    (WRITTEN, ("write", 1, (1, 0), 5)),
    ([("day", 0, 10000)], ("write", 0, (0, 0), 30)),
    (WRITTEN, ("back", MARK)),
    (WRITTEN + [("back", MARK)], ("back", MARK)),
    (WRITTEN + [("back", MARK), ("go", 0, MARK)], ("back", MARK)),
    (WRITTEN + [("day", 0, 5)], ("back", MARK)),
    (WRITTEN, ("come", 1, MARK)),
    (WRITTEN + [("come", 1, MARK)], ("come", 2, MARK)),
    (WRITTEN + [("day", 1, 4)], ("come", 1, MARK)),
    # By the writer's day it ended, and it was called back: not so at the other house.
    (WRITTEN + [("day", 0, 9)], ("come", 1, MARK)),
    (WRITTEN + [("back", MARK), ("go", 0, MARK)], ("come", 1, MARK)),
    ([("day", 0, 7), ("write", 0, MARK, 5), ("day", 1, 11)], ("come", 1, MARK)),
    (WRITTEN + [("back", MARK)], ("go", 0, MARK)),
    (WRITTEN + [("come", 1, MARK), ("back", MARK)], ("go", 1, MARK)),
    (WRITTEN + [("back", MARK), ("come", 1, MARK)], ("go", 1, MARK)),
    (WRITTEN + [("come", 1, MARK), ("back", MARK), ("back", MARK)], ("go", 1, MARK)),
    (WRITTEN + [("come", 1, MARK), ("back", MARK), ("go", 0, MARK)], ("go", 1, MARK)),
    (WRITTEN + [("come", 1, MARK), ("back", MARK), ("day", 0, 9)], ("go", 1, MARK)),
    (WRITTEN + [("back", MARK), ("day", 0, 4)], ("go", 0, MARK)),
)

# Behind each list of rows a row that can't come about.
CAN_NOT = (
    ([], ("day", 0, 0)),
    ([("day", 3, 9)], ("day", 3, 9)),
    ([("day", 3, 9)], ("day", 3, 8)),
    ([("day", 3, 10000)], ("day", 3, 10000)),
    ([], ("write", 0, (0, 1), 5)),
    ([], ("write", 0, (1, 0), 5)),
    (WRITTEN, ("write", 0, (0, 0), 5)),
    (WRITTEN, ("write", 0, (0, 2), 5)),
    (WRITTEN, ("write", 1, (1, 1), 5)),
    (WRITTEN, ("write", 1, (0, 1), 5)),
    ([], ("back", MARK)),
    (WRITTEN, ("back", (0, 1))),
    (WRITTEN, ("back", (1, 0))),
    ([], ("come", 1, MARK)),
    (WRITTEN, ("come", 1, (0, 1))),
    (WRITTEN, ("come", 1, (1, 0))),
    (WRITTEN, ("come", 0, MARK)),
    (WRITTEN + [("come", 1, MARK)], ("come", 1, MARK)),
    (WRITTEN + [("day", 1, 5)], ("come", 1, MARK)),
    (WRITTEN + [("day", 1, 6)], ("come", 1, MARK)),
    ([("day", 0, 7), ("write", 0, MARK, 5), ("day", 1, 12)], ("come", 1, MARK)),
    (WRITTEN + [("come", 1, MARK), ("back", MARK), ("go", 1, MARK)], ("come", 1, MARK)),
    (WRITTEN + [("back", MARK), ("go", 0, MARK)], ("come", 0, MARK)),
    ([], ("go", 0, MARK)),
    (WRITTEN, ("go", 0, MARK)),
    (WRITTEN + [("back", MARK)], ("go", 1, MARK)),
    (WRITTEN + [("come", 1, MARK)], ("go", 1, MARK)),
    (WRITTEN + [("come", 1, MARK), ("back", MARK), ("day", 1, 5)], ("go", 1, MARK)),
    (WRITTEN + [("come", 1, MARK), ("back", MARK), ("go", 1, MARK)], ("go", 1, MARK)),
    (WRITTEN + [("write", 0, (0, 1), 5), ("back", (0, 1))], ("go", 0, MARK)),
    (WRITTEN + [("back", MARK), ("day", 0, 5)], ("go", 0, MARK)),
)

WRONG_HOUSES = (-1, 8, 9, 10 ** 9, True, "0", (0,), ())
WRONG_MARKS = ((), (0,), (0, 0, 0), ((0, 0),), ((0, 0), 0), (0, (0,)), (-1, 0), (8, 0), (99, 0),
               (0, -1), (0, 1000), (0, 10 ** 9), ("0", 0), (0, "0"), (True, 0), (0, False),
               0, "mark", ((), ()))
WRONG_DAYS = (-1, 10001, 10 ** 9, True, "1", (1,))
WRONG_LIVES = (0, -1, 31, 10 ** 9, True, "5", (5,))


def wrong_rows():
    """Rows that are none, each for one reason."""
    rows = [(), ("",), ("days", 1), ("Day", 0, 1), (" day", 0, 1), ("settle",), (0, 0, 1),
            (("day",), 0, 1), ("day", "day", 1), ("tie", 0, 1), (("day", 0, 1),), (MARK,),
            ("day",), ("day", 0), ("day", 0, 1, 1), ("write", 0, MARK), ("write", 0, 0, 0, 5),
            ("write", 0, MARK, 5, 5), ("write",), ("back",), ("back", 0, MARK), ("back", 0, 0),
            ("come",), ("come", MARK), ("come", 0, 0, 0), ("come", 0, MARK, 5),
            ("go",), ("go", MARK), ("go", 0, 0, 0), ("go", 0, MARK, 5), ("come", MARK, 0)]
    rows += [("day", 0, day) for day in WRONG_DAYS]
    rows += [("write", 0, MARK, life) for life in WRONG_LIVES]
    for house in WRONG_HOUSES:
        rows += [("day", house, 1), ("write", house, MARK, 5), ("come", house, MARK), ("go", house, MARK)]
    for mark in WRONG_MARKS:
        rows += [("back", mark), ("write", 0, mark, 5), ("come", 0, mark), ("go", 0, mark)]
    return rows


def can(ahead, row):
    """Point 12 to the letter, by looking all rows ahead through."""
    def day_of(house, rows):
        return max([0] + [each[2] for each in rows if each[:2] == ("day", house)])

    def lives(house, mark):
        at = [k for k, each in enumerate(ahead) if each[0] == "write" and each[2] == mark]
        return any(day_of(mark[0], ahead[:k]) + ahead[k][3] > day_of(house, ahead) for k in at)

    def came(house, mark):
        return any(each[:3] in (("write", house, mark), ("come", house, mark)) for each in ahead)

    if row[0] == "day":
        return row[2] > day_of(row[1], ahead)
    if row[0] == "write":
        number = len([each for each in ahead if each[:2] == ("write", row[1])])
        return row[2] == (row[1], number)
    if row[0] == "back":
        return any(each[0] == "write" and each[2] == row[1] for each in ahead)
    if row[0] == "come":
        return lives(*row[1:]) and not came(*row[1:])
    return lives(*row[1:]) and came(*row[1:]) and row not in ahead and ("back", row[2]) in ahead


def some_row(chance):
    house = chance.randrange(3)
    mark = (chance.choice([0, 0, 1]), chance.choice([0, 0, 0, 1]))
    return chance.choice([
        ("day", house, chance.randint(0, 6)),
        ("write", mark[0], mark, chance.randint(1, 5)),
        ("back", mark),
        ("come", house, mark),
        ("come", house, mark),
        ("go", house, mark),
        ("go", house, mark),
    ])


class Judged(unittest.TestCase):
    def test_no_rows(self):
        self.assertIsNone(judged([]))

    def test_rows_that_can_come_about(self):
        for ahead, row in CAN:
            with self.subTest(row=row, ahead=ahead):
                self.assertIsNone(judged(ahead + [row]))
                self.assertIsNone(judged(ahead + [row, ("day", 6, 10000)]))

    def test_rows_that_can_not_at_each_place(self):
        for ahead, row in CAN_NOT:
            with self.subTest(row=row, ahead=ahead):
                self.assertEqual(judged(ahead + [row]), len(ahead))
                self.assertEqual(judged(ahead + [row, ("day", 6, 1)]), len(ahead))
                self.assertEqual(judged(ahead + [row, ("day", 6, 0), row]), len(ahead))
                more = [("day", 6, 1), ("write", 6, (6, 0), 30)]
                self.assertEqual(judged(more + ahead + [row]), len(more) + len(ahead))

    def test_what_can_not_at_the_first_place(self):
        for row in (("day", 0, 0), ("write", 0, (0, 1), 5), ("back", MARK), ("come", 0, MARK),
                    ("go", 0, MARK)):
            self.assertEqual(judged([row]), 0)
            self.assertEqual(judged([row, ("day", 0, 1)]), 0)

    def test_the_first_of_several(self):
        rows = [("day", 0, 1), ("day", 0, 1), ("go", 5, (5, 5)), ("day", 0, 0)]
        self.assertEqual(judged(rows), 1)

    def test_all_numbers_of_marks(self):
        rows = [("write", 7, (7, number), 30) for number in range(1000)]
        self.assertIsNone(judged(rows))
        self.assertEqual(judged(rows + [("write", 7, (7, 999), 30)]), 1000)
        self.assertIsNone(judged(rows + [("come", 0, (7, 999)), ("back", (7, 999)), ("go", 0, (7, 999))]))

    def test_against_the_rows_ahead(self):
        counts = {}
        for seed in range(3000):
            chance = random.Random(seed)
            rows = []
            for _ in range(25):
                row = some_row(chance)
                good = can(rows, row)
                self.assertEqual(judged(rows + [row]), None if good else len(rows), rows + [row])
                counts[(row[0], good)] = counts.get((row[0], good), 0) + 1
                if good:
                    rows.append(row)
        self.assertEqual(len(counts), 10)
        self.assertGreater(min(counts.values()), 500)


class Refused(unittest.TestCase):
    def check_refused(self, rows, number):
        before = copy.deepcopy(rows)
        with self.assertRaises(BadRow) as caught:
            judged(rows)
        self.assertIs(type(caught.exception), BadRow)
        self.assertEqual(caught.exception.number, number)
        self.assertEqual(rows, before)

    def test_rows_that_are_none_at_each_place(self):
        for row in wrong_rows():
            with self.subTest(row=row):
                self.check_refused([row], 0)
                self.check_refused([row] + WRITTEN, 0)
                self.check_refused(WRITTEN + [row, ("back", MARK)], 1)
                self.check_refused(WRITTEN + [("back", MARK), row], 2)

    def test_the_number_of_the_first(self):
        self.check_refused([("day", 0, 1), ("day", 8, 1), (), ("days", 1)], 1)

    def test_behind_rows_that_can_not_come_about(self):
        for row in wrong_rows():
            self.check_refused([("day", 0, 0), ("back", MARK), row], 2)

    def test_fields_at_their_bounds(self):
        for row, told in ((("day", 0, 0), 0), (("day", 7, 0), 0), (("day", 0, 10000), None),
                          (("write", 0, (0, 0), 1), None), (("write", 7, (7, 0), 30), None),
                          (("write", 0, (7, 999), 1), 0), (("back", (0, 0)), 0),
                          (("back", (7, 999)), 0), (("come", 7, (7, 999)), 0), (("come", 0, (0, 0)), 0),
                          (("go", 7, (7, 999)), 0), (("go", 0, (0, 0)), 0)):
            with self.subTest(row=row):
                self.assertEqual(judged([row]), told)

    def test_rows_are_unchanged_and_the_same_is_told_again(self):
        rows = [("day", 1, 2), ("write", 1, (1, 0), 3), ("come", 0, (1, 0)), ("go", 0, (1, 0))]
        before = copy.deepcopy(rows)
        self.assertEqual(judged(rows), 3)
        self.assertEqual(judged(rows), 3)
        self.assertEqual(rows, before)


if __name__ == "__main__":
    unittest.main()
