"""Rings laid out as lists of hands."""

from countout.checks import GREATEST, check_place, check_step, is_whole
from countout.errors import NoRing

MOST_HANDS = 200


def is_ring(thing):
    """Tell whether it is a list of 1 to 200 texts, no two alike; of anything."""
    if not isinstance(thing, list) or not is_whole(len(thing), 1, MOST_HANDS):
        return False
    # Only texts are sure to have a place in a set, so they are looked at first.
    return all([isinstance(hand, str) for hand in thing]) and len(set(thing)) == len(thing)


def row_out(hands, step, begin=0):
    """Give the hands in the order in which they go, the first count beginning at place begin."""
    check_laid(hands, step, begin)
    return counted_out(hands, step, begin)


def check_laid(hands, step, begin):
    """Refuse what cannot be laid out: no ring, no step, no place to begin at."""
    if not is_ring(hands):
        raise NoRing("a ring is a list of 1 to 200 texts, no two alike")
    check_step(step, GREATEST)
    check_place(begin, len(hands))


def counted_out(hands, step, begin):
    """Give whatever stands in the ring, taken for right, in the order in which it goes."""
    left = list(hands)
    gone = []
    at = begin
    while left:
        at = goes_next(len(left), step, at)
        gone.append(left.pop(at))
    return gone


def goes_next(many, step, begin):
    """Give the place of the one who goes, of so many that are left, counted from place begin."""
    # Whole rounds change nothing, so the remainder stands for a step of any length.
    return (begin + step - 1) % many
