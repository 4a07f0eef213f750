"""How notes can go along ties: rounds, the fewest hand-ons, and lists of hand-ons."""

from newsflood.checks import check_count, check_house, check_houses, is_pair
from newsflood.errors import BadRow, BadTies, NoWay


def rounds(many, ties, start):
    """Tell for each house in how many rounds a note of start comes there; None where it doesn't."""
    near = _neighbours(many, ties)
    check_house(start, many)
    found = [None] * many
    found[start] = 0
    latest = [start]
    # A way without detours has fewer steps than there are houses.
    for turn in range(1, many):
        newcomers = []
        for one in latest:
            for other in near[one]:
                if found[other] is None:
                    found[other] = turn
                    newcomers.append(other)
        latest = newcomers
    return found


def least(many, ties, has, wants):
    """Tell the fewest hand-ons by which all that want it have it."""
    near = _neighbours(many, ties)
    check_houses(has, many)
    check_houses(wants, many)
    # Each hand-on adds one house, so all that can be come to by as few
    # hand-ons is tried out ahead of what needs one more.
    ways = {tuple(sorted(set(has))): []}
    while ways:
        for holders, rows in ways.items():
            if _all_in(wants, holders):
                return rows
        ways = _one_more(near, ways)
    raise NoWay("some that want it can't be come to")


def shows(many, ties, has, wants, rows):
    """Tell whether by these hand-ons all that want it have it, few or not."""
    near = _neighbours(many, ties)
    check_houses(has, many)
    check_houses(wants, many)
    _check_rows(rows, many)
    holders = {house: True for house in has}
    for one, other in rows:
        if one not in holders or other in holders or other not in near[one]:
            return False
        holders[other] = True
    return _all_in(wants, holders)


def _neighbours(many, ties):
    """Tell for each house those that it is tied to; refuse a wrong count, then wrong ties."""
    check_count(many)
    for tie in ties:
        if not is_pair(tie, many) or tie[0] == tie[1]:
            raise BadTies("a tie is a tuple of two unlike houses")
    near = [[] for house in range(many)]
    for one, other in ties:
        near[one].append(other)
        near[other].append(one)
    return near


def _check_rows(rows, many):
    """Refuse the first row that is no two houses' numbers."""
    for number, row in enumerate(rows):
        if not is_pair(row, many):
            raise BadRow(number)


def _all_in(wants, holders):
    """Whether all that want it are among those that hold it."""
    return all(house in holders for house in wants)


def _one_more(near, ways):
    """Tell a way to each group of holders that one more hand-on leads to."""
    longer = {}
    for holders, rows in ways.items():
        for one in holders:
            for other in near[one]:
                if other not in holders:
                    longer[tuple(sorted([*holders, other]))] = [*rows, (one, other)]
    return longer
