"""Points 5 and 6, and point 1 of them: letters between houses, answers and copies."""

import copy
import unittest

from newsflood.errors import BadLetter
from newsflood.house import House


def pair():
    one, other = House(0, 2), House(1, 2)
    one.tie(1)
    other.tie(0)
    return [one, other]


def state(house):
    return house.notes(), house.came(), house.copies(), house.letters()


def drain(houses, queue):
    """Hear all letters and answers; tell all that were heard."""
    queue = list(queue)
    heard = []
    while queue:
        letter = queue.pop(0)
        heard.append(letter)
        queue += houses[letter[0]].hear(letter)
    return heard


def settle(houses):
    heard = []
    for _ in range(len(houses) + 1):
        for house in houses:
            heard += drain(houses, house.letters())
    return heard


def bringing(houses, queue):
    """Hear letters up to the one by which a note would come; tell that one, unheard."""
    queue = list(queue)
    while queue:
        letter = queue.pop(0)
        trial = copy.deepcopy(houses[letter[0]])
        before = trial.came()
        trial.hear(letter)
        if trial.came() != before:
            return letter
        queue += houses[letter[0]].hear(letter)
    return None


def is_made_of_the_listed(value):
    if isinstance(value, (tuple, list)):
        return all(is_made_of_the_listed(item) for item in value)
    return value is None or type(value) in (str, int, bool)


class Letters(unittest.TestCase):
    def test_none_without_ties_and_none_without_notes(self):
        one, other = pair()
        self.assertEqual(one.letters(), [])
        one.untie(1)
        one.write(5, 5)
        self.assertEqual(one.letters(), [])

    def test_letters_for_tied_houses_alone(self):
        house = House(2, 5)
        for other in (4, 0, 3):
            house.tie(other)
        house.untie(3)
        house.write(5, 5)
        self.assertEqual(sorted({to for to, _ in house.letters()}), [0, 4])

    def test_answers_for_tied_houses_alone(self):
        one, other = pair()
        one.write(5, 5)
        letters = one.letters()
        trial = copy.deepcopy(other)
        self.assertEqual([to for to, _ in trial.hear(letters[0])], [0])
        other.untie(0)
        self.assertEqual(other.hear(letters[0]), [])
        other.tie(0)
        drain([one, other], one.letters())
        self.assertEqual(other.came(), [(0, 0)])

    def test_what_letters_are_made_of(self):
        houses = pair()
        houses[0].write(5, 5)
        mark = houses[1].write(6, 6)
        heard = settle(houses)
        houses[1].call_back(mark)
        heard += settle(houses)
        self.assertGreater(len(heard), 4)
        for letter in heard:
            self.assertIs(type(letter), tuple)
            self.assertEqual(len(letter), 2)
            self.assertIn(letter[0], (0, 1))
            self.assertTrue(is_made_of_the_listed(letter))
        self.assertIs(type(houses[0].letters()), list)

    def test_told_again_till_it_is_known_to_have_come(self):
        houses = pair()
        houses[0].write(5, 5)
        letters = houses[0].letters()
        self.assertEqual([to for to, _ in letters], [1])
        self.assertEqual(houses[0].letters(), letters)
        houses[1].hear(letters[0])
        self.assertEqual(houses[0].letters(), letters)
        drain(houses, letters)
        self.assertEqual(houses[0].letters(), [])
        self.assertEqual(houses[1].letters(), [])
        self.assertEqual(houses[1].notes(), [((0, 0), 5)])

    def test_call_backs_are_told_again_till_known(self):
        houses = pair()
        mark = houses[0].write(5, 5)
        settle(houses)
        houses[0].call_back(mark)
        letters = houses[0].letters()
        houses[1].hear(letters[0])
        self.assertEqual(houses[1].notes(), [])
        self.assertEqual(houses[0].letters(), letters)
        drain(houses, houses[0].letters())
        self.assertEqual(houses[0].letters(), [])
        self.assertEqual(houses[1].letters(), [])
        self.assertEqual(houses[1].came(), [mark])

    def test_tied_again_what_is_known_is_not_told_again(self):
        houses = pair()
        houses[0].write(5, 5)
        settle(houses)
        for house, other in ((houses[0], 1), (houses[1], 0)):
            house.untie(other)
            house.tie(other)
            self.assertEqual(house.letters(), [])

    def test_what_ended_is_not_told(self):
        one, other = pair()
        one.write(5, 5)
        one.day(5)
        self.assertEqual(one.letters(), [])

    def test_what_ended_meanwhile_is_not_handed_on(self):
        houses = pair()
        houses[0].write(5, 5)
        answers = houses[1].hear(houses[0].letters()[0])
        houses[0].day(5)
        drain(houses, answers)
        self.assertEqual(houses[1].came(), [])

    def test_a_letter_to_another_house(self):
        houses = pair()
        houses[0].write(5, 5)
        houses[1].write(6, 6)
        letter = houses[0].letters()[0]
        answer = houses[1].hear(letter)[0]
        for house, wrong in ((houses[0], letter), (houses[1], answer),
                             (houses[1], (2, letter[1])), (houses[1], (-1, letter[1])),
                             (houses[1], (99, letter[1])), (houses[1], (0, answer[1]))):
            before = state(house)
            with self.assertRaises(BadLetter) as caught:
                house.hear(wrong)
            self.assertIs(type(caught.exception), BadLetter)
            self.assertEqual(state(house), before)

    def test_what_is_handed_in_is_not_changed_and_what_is_told_may_be(self):
        houses = pair()
        houses[0].write(5, 5)
        letter = houses[0].letters()[0]
        same = copy.deepcopy(letter)
        trial = copy.deepcopy(houses[1])
        answers = houses[1].hear(letter)
        self.assertEqual(letter, same)
        self.assertEqual(trial.hear(same), answers)
        answers.clear()
        settle(houses)
        self.assertEqual(houses[1].notes(), [((0, 0), 5)])

    def test_notes_rise_and_came_is_in_turn(self):
        houses = pair()
        houses[1].write(1, 9)
        houses[0].write(2, 9)
        settle(houses)
        houses[1].write(3, 9)
        houses[0].write(4, 9)
        settle(houses)
        for house in houses:
            self.assertEqual(house.notes(), [((0, 0), 2), ((0, 1), 4), ((1, 0), 1), ((1, 1), 3)])
        self.assertEqual(houses[0].came(), [(0, 0), (1, 0), (0, 1), (1, 1)])
        self.assertEqual(houses[1].came(), [(1, 0), (0, 0), (1, 1), (0, 1)])

    def test_the_end_is_by_the_hearers_own_day(self):
        houses = pair()
        houses[0].day(100)
        houses[0].write(5, 5)
        settle(houses)
        houses[0].day(105)
        self.assertEqual(houses[0].notes(), [])
        self.assertEqual(houses[1].notes(), [((0, 0), 5)])
        houses[1].day(104)
        self.assertEqual(houses[1].notes(), [((0, 0), 5)])
        houses[1].day(105)
        self.assertEqual(houses[1].notes(), [])

    def test_handed_on_by_a_third(self):
        houses = [House(number, 3) for number in range(3)]
        for one, other in ((0, 1), (1, 2)):
            houses[one].tie(other)
            houses[other].tie(one)
        mark = houses[0].write(5, 5)
        settle(houses)
        self.assertEqual([house.notes() for house in houses], [[(mark, 5)]] * 3)
        self.assertEqual([house.copies() for house in houses], [0, 1, 1])
        houses[0].call_back(mark)
        settle(houses)
        self.assertEqual([house.notes() for house in houses], [[]] * 3)


class Copies(unittest.TestCase):
    def setUp(self):
        self.houses = pair()
        self.mark = self.houses[0].write(5, 5)
        self.letter = bringing(self.houses, self.houses[0].letters())
        self.hearer = self.houses[1]
        self.assertEqual((self.hearer.came(), self.hearer.copies()), ([], 0))

    def test_counted_when_it_comes_and_again(self):
        self.hearer.hear(self.letter)
        self.assertEqual((self.hearer.came(), self.hearer.copies()), ([self.mark], 1))
        self.hearer.hear(self.letter)
        self.assertEqual((self.hearer.came(), self.hearer.copies()), ([self.mark], 2))
        self.assertEqual(self.houses[0].copies(), 0)

    def test_heard_when_the_tie_is_not_any_more(self):
        self.houses[0].untie(1)
        self.hearer.untie(0)
        self.hearer.hear(self.letter)
        self.assertEqual(self.hearer.notes(), [(self.mark, 5)])

    def test_never_counted_when_ended(self):
        self.hearer.day(5)
        self.hearer.hear(self.letter)
        self.assertEqual(state(self.hearer), ([], [], 0, []))

    def test_counted_on_the_last_day(self):
        self.hearer.day(4)
        self.hearer.hear(self.letter)
        self.assertEqual((self.hearer.notes(), self.hearer.copies()), ([(self.mark, 5)], 1))

    def test_never_counted_when_called_back_before(self):
        self.houses[0].call_back(self.mark)
        drain(self.houses, self.houses[0].letters())
        self.hearer.hear(self.letter)
        self.assertEqual((self.hearer.notes(), self.hearer.came(), self.hearer.copies()), ([], [], 0))

    def test_not_counted_again_when_it_may_not_come_any_more(self):
        ended = copy.deepcopy(self.houses)
        for houses in (self.houses, ended):
            houses[1].hear(self.letter)
        ended[1].day(5)
        self.houses[0].call_back(self.mark)
        drain(self.houses, self.houses[0].letters())
        for houses in (self.houses, ended):
            houses[1].hear(self.letter)
            self.assertEqual((houses[1].notes(), houses[1].came(), houses[1].copies()),
                             ([], [self.mark], 1))

    def test_a_letter_that_is_heard_late_asks_for_nothing_that_came(self):
        heard = settle(self.houses)
        copies = self.hearer.copies()
        for letter in heard:
            if letter[0] == 0:
                self.assertEqual(self.houses[0].hear(letter), [])
        self.assertEqual(self.hearer.copies(), copies)


if __name__ == "__main__":
    unittest.main()
