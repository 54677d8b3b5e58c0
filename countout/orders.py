"""Rings told by numbers, counted out to their end: everybody's place and count."""

from countout.checks import GREATEST, check_many, check_place, check_step
from countout.laid import MOST_HANDS, counted_out


def order_of(many, step, begin=0):
    """Give the places in the order in which they go."""
    check_many(many, MOST_HANDS)
    check_step(step, GREATEST)
    check_place(begin, many)
    return counted_out(list(range(many)), step, begin)


def counts_of(many, step, begin=0):
    """Give the counts at which they go, place by place."""
    order = order_of(many, step, begin)
    counts = [0] * many
    for at, place in enumerate(order):
        counts[place] = at + 1
    return counts
