"""Plays: steps done one behind the other, and steps as a text."""

from newsflood.errors import BadText, NewsError
from newsflood.world import World

# How many numbers stand behind each step's word.
COUNTS = {
    "write": 3,
    "back": 2,
    "day": 2,
    "days": 1,
    "tie": 2,
    "untie": 2,
    "send": 1,
    "carry": 1,
    "lose": 1,
    "twice": 1,
    "settle": 0,
}
MOST_FIGURES = 5


def played(many, steps):
    """Tell what each step tells, "no" for one that is refused, and the World that did them."""
    world = World(many)
    told = [_told(world, step) for step in steps]
    return (told, world)


def written(steps):
    """Tell the text of steps, a row each."""
    return "\n".join([" ".join([str(part) for part in step]) for step in steps])


def read(text):
    """Tell the steps of a text."""
    # An empty text has no rows, though split would tell one.
    if text == "":
        return []
    return [_step(number, row) for number, row in enumerate(text.split("\n"))]


def _told(world, step):
    """Tell what a step tells, or "no"."""
    try:
        return world.do(step)
    except NewsError:
        return "no"


def _step(number, row):
    """Tell the step of a row, refusing one that is none."""
    # Two blanks beside one another, or one at an end, leave an empty part.
    word, *parts = row.split(" ")
    if COUNTS.get(word) != len(parts):
        raise BadText(number)
    for part in parts:
        if not _is_number(part):
            raise BadText(number)
    numbers = [int(part) for part in parts]
    return (word, *numbers)


def _is_number(part):
    """Whether it is a number of few figures, without a needless 0."""
    # Other alphabets have figures, too, which Python would read.
    if not part.isascii() or not part.isdigit() or len(part) > MOST_FIGURES:
        return False
    return part == "0" or not part.startswith("0")
