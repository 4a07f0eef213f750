"""A house: it writes notes, and hands them on to the houses that it is tied to.

Three kinds of letters go between two houses:

    ("news", sender, ((mark, end), ..), (mark, ..))
        notes that are there, and marks that were called back
    ("reply", sender, (mark, ..), (mark, ..), (mark, ..))
        notes not to be sent any more, call-backs heard, notes wanted
    ("notes", sender, ((mark, worth, end), ..))
        the notes that were wanted

News are told till a reply says that they came. A note itself is sent only
when a reply wants it: so it is sent once where no letter is lost or late.

What a house finds out of another one stays true: days only rise, and what
came or was called back is never forgotten. So letters that are heard late,
again or in another order do no harm.
"""

from newsflood.checks import LAST_DAY, LONGEST_LIFE, check_count, check_house, is_two, is_whole
from newsflood.errors import BadDay, BadHouse, BadLetter, BadLife, BadWorth, NotOwn

MOST_WORTH = 999

NEWS = "news"
REPLY = "reply"
NOTES = "notes"


class House:
    """One of several houses."""

    def __init__(self, number, many):
        check_count(many)
        check_house(number, many)
        self._number = number
        self._many = many
        self._today = 0
        self._next_number = 0
        self._copies = 0
        self._tied = {}
        # All marks that ever came, in turn.
        self._came = {}
        # Of each note that is there: its mark, with its worth and its end.
        self._there = {}
        # All marks that are known to be called back, whether they came or not.
        self._called_back = {}
        # Of each house: marks of notes that it is known not to need any more.
        self._settled = [{} for house in range(many)]
        # Of each house: marks that it is known to have heard to be called back.
        self._aware = [{} for house in range(many)]

    def tie(self, other):
        """Tie it to another house."""
        self._check_other(other)
        self._tied[other] = True

    def untie(self, other):
        """Tie it to another house no more."""
        self._check_other(other)
        self._tied.pop(other, None)

    def day(self, number):
        """Tell it a later day; what ends by it is there no more."""
        if not is_whole(number, self._today + 1, LAST_DAY):
            raise BadDay(f"a day behind {self._today}, to {LAST_DAY}, is wanted")
        self._today = number
        self._there = {mark: kept for mark, kept in self._there.items() if kept[1] > number}

    def today(self):
        """Tell its day."""
        return self._today

    def write(self, worth, life):
        """Write a note and tell its mark."""
        if not is_whole(worth, 0, MOST_WORTH):
            raise BadWorth(f"a worth is 0 to {MOST_WORTH}")
        if not is_whole(life, 1, LONGEST_LIFE):
            raise BadLife(f"a life is 1 to {LONGEST_LIFE} days")
        mark = (self._number, self._next_number)
        self._next_number += 1
        self._take(mark, worth, self._today + life)
        return mark

    def call_back(self, mark):
        """Call a note of its own back; nothing, if it ended."""
        if not self._is_own(mark):
            raise NotOwn("the mark is of no note that the house wrote")
        # A note that ended must not be called back, at no house.
        if mark in self._there:
            self._drop(mark)

    def notes(self):
        """Tell (mark, worth) of all notes that are there, rising."""
        return [(mark, self._there[mark][0]) for mark in sorted(self._there)]

    def came(self):
        """Tell the marks of all notes that ever came, in turn."""
        return list(self._came)

    def copies(self):
        """Tell how many notes came in letters, each as often as it came in one."""
        return self._copies

    def letters(self):
        """Tell the letters for the houses it is tied to, of all that they aren't known to know."""
        told = []
        for other in sorted(self._tied):
            ends = self._unsettled(other)
            backs = self._untold_backs(other)
            if ends or backs:
                told.append((other, (NEWS, self._number, ends, backs)))
        return told

    def hear(self, letter):
        """Hear a letter and tell the answers."""
        to, what = letter
        if to != self._number:
            raise BadLetter("the letter is to another house")
        kind, sender, *parts = what
        if kind == NEWS:
            answer = self._hear_news(sender, *parts)
        elif kind == REPLY:
            answer = self._hear_reply(sender, *parts)
        else:
            answer = self._hear_notes(*parts)
        # Letters are for tied houses alone; the other one tells its news again.
        if answer is None or sender not in self._tied:
            return []
        return [(sender, answer)]

    def _hear_news(self, sender, ends, backs):
        """Reply which of the notes are wanted and which aren't."""
        for mark in backs:
            self._aware[sender][mark] = True
            self._drop(mark)
        needless = []
        wanted = []
        for mark, end in ends:
            self._settled[sender][mark] = True
            if mark in self._came or self._is_barred(mark, end):
                needless.append(mark)
            else:
                wanted.append(mark)
        return (REPLY, self._number, tuple(needless), backs, tuple(wanted))

    def _hear_reply(self, sender, needless, backs, wanted):
        """Send the notes that are wanted; None if there is nothing to send."""
        for mark in needless:
            self._settled[sender][mark] = True
        for mark in backs:
            self._aware[sender][mark] = True
        handed = []
        for mark in wanted:
            # A reply that is heard late may want what has come since.
            if mark in self._there and mark not in self._settled[sender]:
                worth, end = self._there[mark]
                handed.append((mark, worth, end))
        if not handed:
            return None
        return (NOTES, self._number, tuple(handed))

    def _hear_notes(self, handed):
        """Take the notes that may come, and reply that none of them is to be sent again."""
        needless = []
        for mark, worth, end in handed:
            needless.append(mark)
            if self._is_barred(mark, end):
                continue
            self._copies += 1
            if mark not in self._came:
                self._take(mark, worth, end)
        return (REPLY, self._number, tuple(needless), (), ())

    def _unsettled(self, other):
        """Tell (mark, end) of the notes that are there and that the other one may need."""
        settled = self._settled[other]
        return tuple([(mark, self._there[mark][1]) for mark in self._there if mark not in settled])

    def _untold_backs(self, other):
        """Tell the call-backs that the other one isn't known to have heard."""
        aware = self._aware[other]
        return tuple([mark for mark in self._called_back if mark not in aware])

    def _take(self, mark, worth, end):
        """Let a note come."""
        self._came[mark] = True
        self._there[mark] = (worth, end)

    def _drop(self, mark):
        """Have a mark called back, whether it came or not, so that it can't come later."""
        self._called_back[mark] = True
        self._there.pop(mark, None)

    def _is_barred(self, mark, end):
        """Whether a note may not come, since it ended or was called back."""
        return end <= self._today or mark in self._called_back

    def _is_own(self, mark):
        """Whether it is the mark of a note that the house wrote."""
        return is_two(mark, self._number, self._next_number - 1) and mark[0] == self._number

    def _check_other(self, other):
        """Refuse what is no other house."""
        check_house(other, self._many)
        if other == self._number:
            raise BadHouse("a house isn't tied to itself")
