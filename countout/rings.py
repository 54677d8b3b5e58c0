"""Rings that are counted out count by count, and in which hands come."""

from countout.checks import check_count, check_place
from countout.errors import NoHand, TooMany, TwiceTold
from countout.laid import check_laid, counted_out, goes_next

MOST_EVER = 400


class Ring:
    """A ring of hands that is counted out by a step."""

    def __init__(self, hands, step, begin=0):
        """Lay out the hands, the first count beginning with the one at place begin."""
        check_laid(hands, step, begin)
        # The one with whom the next count begins always stands first.
        self._left = hands[begin:] + hands[:begin]
        self._gone = []
        self._step = step

    def left(self):
        """Give the hands that are left, from the one with whom the next count begins."""
        return list(self._left)

    def gone(self):
        """Give the hands that went, in order."""
        return list(self._gone)

    def count(self):
        """Count once, and give the hand that goes."""
        if not self._left:
            raise NoHand("nobody is left to go")
        return self._go_on()

    def counts(self, many):
        """Count so many times, and give the hands that go, in order."""
        check_count(many, 0, len(self._left))
        return [self._go_on() for _ in range(many)]

    def come(self, hand, place=None):
        """Let a hand come in at that place of those that are left, or behind all of them."""
        if not isinstance(hand, str):
            raise NoHand("a hand is a text")
        if hand in self._left or hand in self._gone:
            raise TwiceTold("this hand is in, or was in before")
        at = len(self._left)
        if place is not None:
            # Of a ring in which the new one already stands, for it may stand behind all.
            check_place(place, len(self._left) + 1)
            at = place
        if len(self._left) + len(self._gone) >= MOST_EVER:
            raise TooMany("400 hands have been in, and no more may come")
        self._left.insert(at, hand)

    def due(self, hand):
        """Give the count from now on, 1 being the next one, at which the hand goes if nobody comes."""
        if hand not in self._left:
            raise NoHand("nobody who is left is called so")
        return self._row().index(hand) + 1

    def last(self):
        """Give the hand that stays last if nobody comes."""
        if not self._left:
            raise NoHand("nobody is left to stay")
        return self._row()[-1]

    def _row(self):
        return counted_out(self._left, self._step, 0)

    def _go_on(self):
        at = goes_next(len(self._left), self._step, 0)
        hand = self._left[at]
        self._left = self._left[at + 1:] + self._left[:at]
        self._gone.append(hand)
        return hand
