"""Whom one wishes to stay last: from where, and by which step, that one does."""

from countout.checks import check_count, check_many, check_place
from countout.leaps import last_of
from countout.orders import order_of

MOST_WISHED = 60
MOST_TRIED = 500


def begin_for(many, step, place):
    """Give the one beginning from which the hand at that place stays last."""
    # It looks at many and at step, so it comes before place is looked at.
    last = last_of(many, step)
    check_place(place, many)
    # The beginning turns the whole ring, and the last one with it.
    return (place - last) % many


def least_step(many, place, most=100):
    """Give the least step, up to most, by which the hand at that place stays last, or None."""
    check_many(many, MOST_WISHED)
    check_place(place, many)
    check_count(most, 0, MOST_TRIED)
    for step in range(1, most + 1):
        if order_of(many, step)[-1] == place:
            return step
    return None
