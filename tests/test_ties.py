"""Points 10 and 11, and point 1 of them: rounds, least and shows."""

import copy
import itertools
import random
import unittest

from newsflood.errors import BadHouse, BadRow, BadTies, NoWay
from newsflood.ties import least, rounds, shows

WRONG_COUNTS = (1, 9, 0, -1, -8, 100, 10 ** 9, True)
WRONG_HOUSES = (-1, -4, 4, 5, 9, 10 ** 9, True)
WRONG_TIES = ((0, 0), (3, 3), (0, 4), (4, 0), (-1, 0), (0, -1), (10 ** 9, 0), (0, 10 ** 9), (4, 4),
              (-1, -1), (), (0,), (0, 1, 2), ((0, 1), 2), (0, (1,)), (True, 2))
WRONG_ROWS = ((0, 4), (4, 0), (-1, 0), (0, -1), (10 ** 9, 0), (0, 10 ** 9), (), (1,), (0, 1, 2),
              ((0, 1),), ((0, 1), 2), (0, ()), (0, True))


def line(many):
    return [(house, house + 1) for house in range(many - 1)]


def all_ties(many):
    return list(itertools.combinations(range(many), 2))


def reached(ties, has, within):
    """The houses of within that are come to from has, by houses of within alone."""
    holders = set(has)
    more = True
    while more:
        more = {house for one, other in ties for here, house in ((one, other), (other, one))
                if here in holders and house in within and house not in holders}
        holders |= more
    return holders


def fewest(many, ties, has, wants):
    """The least number of hand-ons, by trying out all groups of houses; None if there is none."""
    for size in range(many + 1):
        for group in itertools.combinations([h for h in range(many) if h not in has], size):
            if set(wants) <= reached(ties, has, group):
                return size
    return None


def flood(many, ties, start):
    """Point 10 to the letter: in each round each that has it hands it on to all it is tied to."""
    found = [None] * many
    found[start] = 0
    for number in range(1, many + 1):
        holders = [house for house in range(many) if found[house] is not None]
        for one, other in ties:
            for here, there in ((one, other), (other, one)):
                if here in holders and found[there] is None:
                    found[there] = number
    return found


class Refusing(unittest.TestCase):
    def refuses(self, error, deed, *handed):
        """Refused with just this class, and with nothing changed."""
        before = copy.deepcopy(handed)
        with self.assertRaises(error) as caught:
            deed(*handed)
        self.assertIs(type(caught.exception), error)
        self.assertEqual(handed, before)
        return caught.exception

    def refuses_count_and_ties(self, deed, *rest):
        for many in WRONG_COUNTS:
            self.refuses(BadHouse, deed, many, [], *rest)
            self.refuses(BadHouse, deed, many, [(0, 0)], *rest)
        for tie in WRONG_TIES:
            self.refuses(BadTies, deed, 4, [tie], *rest)
            self.refuses(BadTies, deed, 4, [(0, 1), (1, 2), tie], *rest)


class Rounds(Refusing):
    def test_lines(self):
        self.assertEqual(rounds(2, [(0, 1)], 0), [0, 1])
        self.assertEqual(rounds(2, [(1, 0)], 0), [0, 1])
        self.assertEqual(rounds(8, line(8), 0), [0, 1, 2, 3, 4, 5, 6, 7])
        self.assertEqual(rounds(8, line(8), 7), [7, 6, 5, 4, 3, 2, 1, 0])
        self.assertEqual(rounds(5, line(5), 2), [2, 1, 0, 1, 2])

    def test_rings(self):
        self.assertEqual(rounds(5, line(5) + [(4, 0)], 0), [0, 1, 2, 2, 1])
        self.assertEqual(rounds(6, line(6) + [(0, 5)], 2), [2, 1, 0, 1, 2, 3])

    def test_ties_that_stand_twice_or_the_other_way(self):
        ties = [(0, 1), (1, 0), (0, 1), (2, 1), (1, 2), (2, 1)]
        self.assertEqual(rounds(3, ties, 0), [0, 1, 2])
        self.assertEqual(rounds(3, ties, 2), [2, 1, 0])

    def test_what_can_not_be_come_to(self):
        self.assertEqual(rounds(2, [], 1), [None, 0])
        self.assertEqual(rounds(5, [(0, 1), (2, 3)], 3), [None, None, 1, 0, None])

    def test_all_small_ties_from_each_start(self):
        for many in (2, 3, 4):
            for size in range(len(all_ties(many)) + 1):
                for ties in itertools.combinations(all_ties(many), size):
                    for start in range(many):
                        self.assertEqual(rounds(many, list(ties), start), flood(many, ties, start))

    def test_larger_ties_from_each_start(self):
        chance = random.Random(10)
        for _ in range(200):
            many = chance.randint(5, 8)
            ties = [tuple(chance.sample(range(many), 2)) for _ in range(chance.randint(0, 12))]
            for start in range(many):
                self.assertEqual(rounds(many, ties, start), flood(many, ties, start))

    def test_refused(self):
        self.refuses_count_and_ties(rounds, 0)
        self.refuses_count_and_ties(rounds, 99)
        for start in WRONG_HOUSES:
            self.refuses(BadHouse, rounds, 4, [(0, 1)], start)
            self.refuses(BadTies, rounds, 4, [(0, 0)], start)
            self.refuses(BadHouse, rounds, 9, [(0, 0)], start)

    def test_arguments_are_unchanged_and_the_same_is_told_again(self):
        ties = [(2, 1), (0, 1)]
        told = rounds(3, ties, 0)
        told[0] = 9
        self.assertEqual(rounds(3, ties, 0), [0, 1, 2])
        self.assertEqual(ties, [(2, 1), (0, 1)])


class Least(Refusing):
    def check_least(self, many, ties, has, wants):
        before = copy.deepcopy((ties, has, wants))
        number = fewest(many, ties, has, wants)
        if number is None:
            self.refuses(NoWay, least, many, ties, has, wants)
            return
        told = least(many, ties, has, wants)
        self.assertEqual((ties, has, wants), before)
        self.assertEqual(len(told), number)
        self.assertIs(type(told), list)
        self.assertTrue(shows(many, ties, has, wants, told))
        again = list(told)
        told.append((0, 0))
        self.assertEqual(least(many, ties, has, wants), again)

    def test_plain_cases(self):
        self.assertEqual(least(2, [(1, 0)], [0], [1]), [(0, 1)])
        self.assertEqual(least(3, line(3), [0], [2]), [(0, 1), (1, 2)])
        self.assertEqual(least(3, line(3), [0, 2], [1, 2]) in ([(0, 1)], [(2, 1)]), True)
        self.assertEqual(least(8, line(8), [7], [0]), [(k, k - 1) for k in range(7, 0, -1)])

    def test_nothing_to_do(self):
        self.assertEqual(least(3, [], [], []), [])
        self.assertEqual(least(3, line(3), [1], []), [])
        self.assertEqual(least(3, [], [0, 2], [2, 0, 2]), [])

    def test_by_one_that_wants_nothing(self):
        # Straight ways to each would take one hand-on more than a common one.
        ties = [(0, 1), (1, 2), (0, 3), (3, 4), (0, 5), (5, 2), (5, 4)]
        self.assertEqual(sorted(least(6, ties, [0], [2, 4])), [(0, 5), (5, 2), (5, 4)])

    def test_all_small_cases(self):
        for many in (2, 3):
            groups = [list(group) for size in range(many + 1)
                      for group in itertools.combinations(range(many), size)]
            for size in range(len(all_ties(many)) + 1):
                for ties in itertools.combinations(all_ties(many), size):
                    for has in groups:
                        for wants in groups:
                            self.check_least(many, list(ties), has, wants)

    def test_larger_cases(self):
        chance = random.Random(11)
        for _ in range(300):
            many = chance.randint(4, 8)
            ties = [tuple(chance.sample(range(many), 2)) for _ in range(chance.randint(0, 14))]
            has = [chance.randrange(many) for _ in range(chance.randint(0, 3))]
            wants = [chance.randrange(many) for _ in range(chance.randint(0, 5))]
            self.check_least(many, ties, has, wants)

    def test_no_way(self):
        self.refuses(NoWay, least, 2, [], [0], [1])
        self.refuses(NoWay, least, 2, [(0, 1)], [], [1])
        self.refuses(NoWay, least, 4, [(0, 1), (2, 3)], [0], [1, 3])

    def test_refused(self):
        self.refuses_count_and_ties(least, [0], [1])
        self.refuses_count_and_ties(least, [99], [99])
        for house in WRONG_HOUSES:
            self.refuses(BadHouse, least, 4, [], [0, house], [1])
            self.refuses(BadHouse, least, 4, [], [0], [1, house])
            self.refuses(BadHouse, least, 4, [], [], [house])
            # There would be no way, either.
            self.refuses(BadHouse, least, 4, [], [0], [3, house])
            self.refuses(BadHouse, least, 4, [], [house], [3])
            self.refuses(BadTies, least, 4, [(0, 0)], [house], [house])


class Shows(Refusing):
    def test_lists_that_do_it(self):
        self.assertIs(shows(3, line(3), [0], [2], [(0, 1), (1, 2)]), True)
        self.assertIs(shows(3, [(1, 0), (2, 1), (2, 1)], [0], [2], [(0, 1), (1, 2)]), True)
        self.assertIs(shows(3, [], [0], [0], []), True)
        self.assertIs(shows(3, [], [], [], []), True)
        # Few or not.
        self.assertIs(shows(3, line(3), [0], [1], [(0, 1), (1, 2)]), True)
        self.assertIs(shows(3, line(3), [0], [], [(0, 1)]), True)

    def test_lists_that_do_not(self):
        self.assertIs(shows(3, line(3), [0], [2], [(0, 1)]), False)
        self.assertIs(shows(3, line(3), [0], [2], []), False)
        # Not in that order.
        self.assertIs(shows(3, line(3), [0], [2], [(1, 2), (0, 1)]), False)
        # Not along a tie.
        self.assertIs(shows(3, line(3), [0], [2], [(0, 2)]), False)
        # Not to one that hasn't.
        self.assertIs(shows(3, line(3), [0, 1], [1], [(0, 1)]), False)
        self.assertIs(shows(3, line(3), [0], [1], [(0, 1), (0, 1)]), False)
        self.assertIs(shows(3, line(3), [0], [1], [(0, 1), (1, 0)]), False)
        # Not from one that has it.
        self.assertIs(shows(3, line(3), [0], [1], [(2, 1)]), False)
        self.assertIs(shows(3, line(3), [], [], [(0, 1)]), False)

    def test_a_hand_on_to_itself_is_no_bad_row(self):
        self.assertIs(shows(3, line(3), [0], [0], [(0, 0)]), False)
        self.assertIs(shows(3, line(3), [0], [0], [(1, 1)]), False)

    def test_all_lists_of_two_rows(self):
        pairs = list(itertools.product(range(3), repeat=2))
        ties = [(1, 0), (1, 2)]
        doing = [[list(rows) for rows in itertools.product(pairs, repeat=2)
                  if shows(3, ties, [start], [0, 1, 2], list(rows))] for start in range(3)]
        self.assertEqual(doing, [[[(0, 1), (1, 2)]],
                                 [[(1, 0), (1, 2)], [(1, 2), (1, 0)]],
                                 [[(2, 1), (1, 0)]]])

    def test_bad_row_with_the_number_of_the_first(self):
        for row in WRONG_ROWS:
            for rows, number in (([row], 0), ([(0, 1), row], 1), ([(0, 1), (1, 2), row, row], 2),
                                 ([(2, 2), (0, 3), (3, 0), row, ()], 3)):
                told = self.refuses(BadRow, shows, 4, line(4), [0], [2], rows)
                self.assertEqual(told.number, number)

    def test_refused(self):
        self.refuses_count_and_ties(shows, [0], [1], [])
        self.refuses_count_and_ties(shows, [99], [99], [()])
        for house in WRONG_HOUSES:
            for rows in ([], [()]):
                self.refuses(BadHouse, shows, 4, [], [house], [1], rows)
                self.refuses(BadHouse, shows, 4, [], [0], [house], rows)

    def test_arguments_are_unchanged(self):
        handed = (3, [(0, 1), (2, 1)], [0, 0], [2, 1], [(0, 1), (1, 2)])
        before = copy.deepcopy(handed)
        self.assertIs(shows(*handed), True)
        self.assertEqual(handed, before)
        self.assertIs(shows(*handed), True)


if __name__ == "__main__":
    unittest.main()
