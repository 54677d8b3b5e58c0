"""Which numbers are taken; each check refuses what is none of them, of anything.

The messages never show what was handed in: numbers of any length may come.
"""

from countout.errors import NoCount, NoMany, NoPlace, NoStep

GREATEST = 10 ** 60


def is_whole(thing, low, high):
    """Tell whether it is a whole number from low to high, both taken in."""
    # True and False would pass as 1 and 0.
    return isinstance(thing, int) and not isinstance(thing, bool) and low <= thing <= high


def check_many(many, most):
    """Refuse what is not how many hands a ring of at most so many has."""
    if not is_whole(many, 1, most):
        raise NoMany("a ring has a whole number of hands, at least 1, and not more than are taken here")


def check_step(step, most):
    """Refuse what is no step up to most."""
    if not is_whole(step, 1, most):
        raise NoStep("a step is a whole number, at least 1, and not greater than is taken here")


def check_place(place, many):
    """Refuse what is no place in a ring of so many hands."""
    if not is_whole(place, 0, many - 1):
        raise NoPlace("a place is a whole number from 0 to one less than there are hands")


def check_count(count, low, high):
    """Refuse what is no count from low to high."""
    if not is_whole(count, low, high):
        raise NoCount("a count is a whole number, not less and not greater than is taken here")
