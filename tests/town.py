"""Several houses with a road between them, and the checks of point 7 at each event."""

from newsflood.house import House


def joined(many, ties):
    """The groups of houses that are joined by ties, straight or by others."""
    group = {house: {house} for house in range(many)}
    for one, other in ties:
        both = group[one] | group[other]
        for house in both:
            group[house] = both
    return [sorted(each) for house, each in group.items() if house == min(each)]


class Town:
    """Houses, and what a watcher knows of them: what was written, heard and told."""

    def __init__(self, case, many):
        self.case = case
        self.many = many
        self.houses = [House(number, many) for number in range(many)]
        self.days = [0] * many
        self.written = {}
        self.called_back = set()
        # What each house heard to be called back. It is known from outside,
        # since letters tells all that the other house hasn't heard yet.
        self.heard_back = [set() for _ in range(many)]
        self.came = [[] for _ in range(many)]
        self.there = [[] for _ in range(many)]
        self.copies = [0] * many
        self.ties = set()
        self.road = []

    def tie(self, one, other):
        self.houses[one].tie(other)
        self.houses[other].tie(one)
        self.ties |= {(one, other), (other, one)}
        self.check_all()

    def untie(self, one, other):
        self.houses[one].untie(other)
        self.houses[other].untie(one)
        self.ties -= {(one, other), (other, one)}
        self.check_all()

    def tie_one_way(self, one, other):
        self.houses[one].tie(other)
        self.ties.add((one, other))
        self.check_all()

    def write(self, house, worth, life):
        mark = self.houses[house].write(worth, life)
        self.case.assertEqual(mark, (house, len([m for m in self.written if m[0] == house])))
        self.written[mark] = (worth, self.days[house] + life)
        self.case.assertIn((mark, worth), self.houses[house].notes())
        self.check_all()
        return mark

    def call_back(self, mark):
        house = mark[0]
        ended = self.written[mark][1] <= self.days[house]
        self.houses[house].call_back(mark)
        if not ended:
            self.called_back.add(mark)
            self.heard_back[house].add(mark)
        self.check_all()

    def day(self, house, day):
        self.houses[house].day(day)
        self.days[house] = day
        self.check_all()

    def told(self, house):
        """Its letters, each with the call-backs that whoever hears it has heard then."""
        letters = self.houses[house].letters()
        self.case.assertEqual(letters, self.houses[house].letters())
        for to, _ in letters:
            self.case.assertIn((house, to), self.ties)
        return [(letter, frozenset(self.heard_back[house])) for letter in letters]

    def hear(self, parcel):
        """Let a letter be heard; tell the answers, as letters that tell of no call-backs."""
        letter, backs = parcel
        to = letter[0]
        self.heard_back[to] |= backs
        answers = self.houses[to].hear(letter)
        self.check_all(to)
        return [(answer, frozenset()) for answer in answers]

    def drain(self, queue):
        """Hear all letters and answers one by one, those told first ahead."""
        queue = list(queue)
        while queue:
            queue += self.hear(queue.pop(0))

    def calm_round(self):
        """Each house's turn; tells how many letters were told."""
        number = 0
        for house in range(self.many):
            parcels = self.told(house)
            number += len(parcels)
            self.drain(parcels)
        return number

    def clear_road(self):
        parcels = self.road
        self.road = []
        self.drain(parcels)

    def check_all(self, hearer=None):
        for number in range(self.many):
            self.check(number, number == hearer)

    def check(self, number, hears):
        """Point 7 at one house, and that what it tells is told again."""
        case = self.case
        house = self.houses[number]
        came = house.came()
        notes = house.notes()
        copies = house.copies()
        case.assertEqual((came, notes, copies), (house.came(), house.notes(), house.copies()))
        earlier = self.came[number]
        case.assertEqual(came[:len(earlier)], earlier)
        case.assertEqual(len(came), len(set(came)))
        fresh = came[len(earlier):]
        for mark in fresh:
            case.assertTrue(self.may_be(number, mark))
            case.assertTrue(hears or mark[0] == number)
        marks = [mark for mark, _ in notes]
        case.assertEqual(marks, sorted(set(marks)))
        for mark, worth in notes:
            case.assertIn(mark, came)
            case.assertEqual(worth, self.written[mark][0])
            case.assertTrue(self.may_be(number, mark))
        for mark in self.there[number] + fresh:
            if mark not in marks:
                ended = self.written[mark][1] <= self.days[number]
                case.assertTrue(ended or mark in self.called_back)
        case.assertLessEqual(set(marks), set(self.there[number] + fresh))
        if hears:
            case.assertGreaterEqual(copies, self.copies[number] + len(fresh))
        else:
            case.assertEqual(copies, self.copies[number])
        self.came[number] = came
        self.there[number] = marks
        self.copies[number] = copies

    def may_be(self, number, mark):
        """Whether a note may come to a house, or be there."""
        return self.written[mark][1] > self.days[number] and mark not in self.heard_back[number]
