"""Checks of what is handed in, and the bounds that several files share."""

from newsflood.errors import BadHouse

FEWEST_HOUSES = 2
MOST_HOUSES = 8
LAST_DAY = 10000
LONGEST_LIFE = 30


def is_whole(value, low, high):
    """Whether it is a number from low to high."""
    # To Python, True and False are integers; to the document they are not.
    if isinstance(value, bool) or not isinstance(value, int):
        return False
    return low <= value <= high


def is_two(value, first, second):
    """Whether it is a tuple of two numbers, from 0 to first and from 0 to second."""
    if not isinstance(value, tuple) or len(value) != 2:
        return False
    return is_whole(value[0], 0, first) and is_whole(value[1], 0, second)


def is_pair(value, many):
    """Whether it is a tuple of two houses' numbers."""
    return is_two(value, many - 1, many - 1)


def check_count(many):
    """Refuse a count of houses that can't be."""
    if not is_whole(many, FEWEST_HOUSES, MOST_HOUSES):
        raise BadHouse(f"there are {FEWEST_HOUSES} to {MOST_HOUSES} houses")


def check_house(house, many):
    """Refuse a house that there isn't among so many."""
    if not is_whole(house, 0, many - 1):
        raise BadHouse(f"houses are numbered from 0 to {many - 1}")


def check_houses(houses, many):
    """Refuse a list with a house that there isn't among so many."""
    for house in houses:
        check_house(house, many)
