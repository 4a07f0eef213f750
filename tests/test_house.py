"""Points 2 to 5, and point 1 of them: one house, and what it refuses."""

import unittest

from newsflood.errors import BadDay, BadHouse, BadLife, BadWorth, NotOwn
from newsflood.house import House


def state(house):
    return house.notes(), house.came(), house.copies(), house.letters()


class Houses(unittest.TestCase):
    def refuses(self, error, house, deed, *handed):
        """Refused with just this class, and with nothing changed."""
        before = state(house)
        with self.assertRaises(error) as caught:
            getattr(house, deed)(*handed)
        self.assertIs(type(caught.exception), error)
        self.assertEqual(state(house), before)

    def test_counts_and_numbers(self):
        for many in range(2, 9):
            for number in range(many):
                self.assertEqual(state(House(number, many)), ([], [], 0, []))

    def test_refused_counts_and_numbers(self):
        for number, many in ((0, 1), (0, 9), (0, 0), (0, -2), (0, 100), (0, 10 ** 9), (2, 2), (8, 8),
                             (-1, 8), (-8, 8), (99, 8), (10 ** 9, 8), (9, 9), (1, 1), (-1, -1),
                             (0, True), (True, 2), (False, 2)):
            with self.subTest((number, many)), self.assertRaises(BadHouse) as caught:
                House(number, many)
            self.assertIs(type(caught.exception), BadHouse)

    def test_the_count_is_refused_ahead_of_the_house(self):
        with self.assertRaisesRegex(BadHouse, "there are"):
            House(9, 9)
        with self.assertRaisesRegex(BadHouse, "numbered"):
            House(8, 8)

    def test_refused_ties(self):
        house = House(1, 3)
        house.tie(0)
        house.write(5, 5)
        for other in (-1, -3, 3, 4, 99, 10 ** 9, 1, True, False):
            self.refuses(BadHouse, house, "tie", other)
            self.refuses(BadHouse, house, "untie", other)

    def test_ties_that_are_so_already_stay(self):
        house = House(1, 3)
        house.write(5, 5)
        house.untie(2)
        self.assertEqual(house.letters(), [])
        house.tie(2)
        once = house.letters()
        self.assertEqual([to for to, _ in once], [2])
        house.tie(2)
        self.assertEqual(house.letters(), once)
        house.untie(2)
        self.assertEqual(house.letters(), [])
        house.untie(2)
        self.assertEqual(house.letters(), [])
        house.tie(0)
        self.assertEqual([to for to, _ in house.letters()], [0])

    def test_what_changes_something_tells_none(self):
        house = House(0, 2)
        mark = house.write(1, 1)
        self.assertIsNone(house.tie(1))
        self.assertIsNone(house.untie(1))
        self.assertIsNone(house.day(0 + 1))
        self.assertIsNone(house.call_back(mark))

    def test_days(self):
        house = House(0, 2)
        house.write(5, 30)
        self.refuses(BadDay, house, "day", 0)
        house.day(1)
        self.refuses(BadDay, house, "day", 1)
        house.day(20)
        for day in (20, 19, 0, -1, -99, 10001, 10002, 10 ** 9, True):
            self.refuses(BadDay, house, "day", day)
        self.assertEqual(house.notes(), [((0, 0), 5)])
        house.day(9999)
        house.day(10000)
        self.refuses(BadDay, house, "day", 10000)
        self.refuses(BadDay, house, "day", 10001)

    def test_a_refused_day_is_not_told(self):
        house = House(0, 2)
        house.write(5, 1)
        self.refuses(BadDay, house, "day", 10001)
        self.assertEqual(house.notes(), [((0, 0), 5)])
        house.day(1)
        self.assertEqual(house.notes(), [])

    def test_the_last_day_ends_nothing_by_itself(self):
        house = House(0, 2)
        house.day(10000)
        house.write(5, 1)
        self.assertEqual(house.notes(), [((0, 0), 5)])

    def test_marks_are_numbered_at_each_house(self):
        for number in (0, 3):
            house = House(number, 4)
            self.assertEqual([house.write(5, 5) for _ in range(12)],
                             [(number, k) for k in range(12)])

    def test_a_note_comes_to_its_writer_at_once(self):
        house = House(1, 2)
        mark = house.write(7, 3)
        self.assertEqual(house.notes(), [(mark, 7)])
        self.assertEqual(house.came(), [mark])
        self.assertEqual(house.copies(), 0)

    def test_worths_and_lives_at_their_bounds(self):
        house = House(0, 2)
        house.write(0, 1)
        house.write(999, 30)
        self.assertEqual(house.notes(), [((0, 0), 0), ((0, 1), 999)])
        for worth in (-1, -99, 1000, 1001, 10 ** 9, True):
            self.refuses(BadWorth, house, "write", worth, 1)
            # The worth is handed in first.
            for life in (0, 31, 10 ** 9):
                self.refuses(BadWorth, house, "write", worth, life)
        for life in (0, 31, 32, -1, 10 ** 9, True):
            self.refuses(BadLife, house, "write", 0, life)
        self.assertEqual(house.write(1, 1), (0, 2))

    def test_the_end_is_by_the_day(self):
        house = House(0, 2)
        house.day(10)
        short = house.write(1, 1)
        middle = house.write(2, 5)
        long = house.write(3, 30)
        self.assertEqual(house.notes(), [(short, 1), (middle, 2), (long, 3)])
        house.day(11)
        self.assertEqual(house.notes(), [(middle, 2), (long, 3)])
        house.day(14)
        self.assertEqual(house.notes(), [(middle, 2), (long, 3)])
        house.day(15)
        self.assertEqual(house.notes(), [(long, 3)])
        house.day(39)
        self.assertEqual(house.notes(), [(long, 3)])
        house.day(40)
        self.assertEqual(house.notes(), [])
        self.assertEqual(house.came(), [short, middle, long])

    def test_notes_rise_past_nine(self):
        house = House(0, 2)
        for k in range(12):
            house.write(100 - k, 5)
        self.assertEqual(house.notes(), [((0, k), 100 - k) for k in range(12)])

    def test_called_back(self):
        house = House(0, 2)
        first = house.write(1, 5)
        second = house.write(2, 5)
        house.call_back(first)
        self.assertEqual(house.notes(), [(second, 2)])
        self.assertEqual(house.came(), [first, second])
        house.call_back(first)
        self.assertEqual(house.notes(), [(second, 2)])
        self.assertEqual(house.write(3, 5), (0, 2))

    def test_called_back_when_ended_is_nothing(self):
        house = House(0, 2)
        house.tie(1)
        mark = house.write(1, 5)
        house.day(5)
        before = state(house)
        house.call_back(mark)
        self.assertEqual(state(house), before)
        self.assertEqual(house.letters(), [])

    def test_called_back_on_the_last_day_it_is_there(self):
        house = House(0, 2)
        house.tie(1)
        mark = house.write(1, 5)
        house.day(4)
        house.call_back(mark)
        self.assertEqual(house.notes(), [])
        self.assertNotEqual(house.letters(), [])

    def test_not_own(self):
        house = House(1, 3)
        self.refuses(NotOwn, house, "call_back", (1, 0))
        house.write(1, 5)
        house.write(2, 5)
        for mark in ((1, 2), (1, -1), (0, 0), (2, 0), (3, 0), (-1, 0), (), (1,), (1, 0, 0),
                     ((1, 0),), ((1, 0), 0), (1, (0,)), ((), ()), (True, 0), (1, True),
                     (1, 10 ** 9), (1, -2), (10 ** 9, 0), ((1, 0), (1, 0))):
            self.refuses(NotOwn, house, "call_back", mark)
        self.assertEqual(len(house.notes()), 2)
        house.call_back((1, 1))
        house.call_back((1, 0))
        self.assertEqual(house.notes(), [])

    def test_what_is_told_may_be_changed(self):
        house = House(0, 3)
        house.tie(1)
        house.tie(2)
        house.write(1, 5)
        house.write(2, 5)
        before = state(house)
        self.assertEqual(state(house), before)
        for told in (house.notes(), house.came(), house.letters()):
            told.append("more")
            told.reverse()
            del told[1:]
        self.assertEqual(state(house), before)


if __name__ == "__main__":
    unittest.main()
