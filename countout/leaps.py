"""Rings told by numbers alone, however great.

The counts are taken to go on and on from 1, without beginning anew. Whoever is
told a number that the step parts goes; whoever else is told a number is told a
greater one on the next round. So a hand is followed from number to number, and
nobody else is looked at: at step 100, about 230 numbers for each figure of many.
"""

from countout.checks import GREATEST, check_count, check_many, check_place, check_step

MOST_STEP = 100


def count_of(many, step, begin, place):
    """Give the count at which the hand at that place goes."""
    _check_ring(many, step, begin)
    check_place(place, many)
    number = (place - begin) % many + 1
    while number % step != 0:
        number = many + number - number // step
    return number // step


def goes_at(many, step, begin, count):
    """Give the place of the hand that goes at that count."""
    _check_ring(many, step, begin)
    check_count(count, 1, many)
    return _place_at(many, step, begin, count)


def last_of(many, step, begin=0):
    """Give the place of the hand that goes at the last count."""
    _check_ring(many, step, begin)
    return _place_at(many, step, begin, many)


def _check_ring(many, step, begin):
    check_many(many, GREATEST)
    check_step(step, MOST_STEP)
    check_place(begin, many)


def _place_at(many, step, begin, count):
    number = count * step
    # The leaps of count_of backwards: at step 1 nobody is told a second number,
    # so nothing is ever divided by 0 here.
    while number > many:
        over = number - many
        number = over + (over - 1) // (step - 1)
    return (begin + number - 1) % many
