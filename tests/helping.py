"""What several tests need: going round hand by hand, wrong things, a limit of time."""

import signal
from collections import deque
from contextlib import contextmanager

from countout.errors import CountError

GREATEST = 10 ** 60

# Things that are no numbers at all: none of them is a step, a place, a count ..
# The ones that Python takes for numbers, True and False, stand first.
NO_NUMBERS = [
    True, False, None, "", "1", "0", "a", b"", b"1", [], [1], ["a"], (), (1,), {}, {1: 1},
    set(), {1}, frozenset(), range(3), 1j, object(), int, len, lambda: 1, ValueError("1"),
]


def go_round(many, step, begin):
    """The places in the order in which they go, each count said aloud, one by one."""
    ring = deque(range(many))
    for _ in range(begin):
        ring.append(ring.popleft())
    order = []
    while ring:
        for _ in range(step - 1):
            ring.append(ring.popleft())
        order.append(ring.popleft())
    return order


def numbers_told(many, step):
    """Place by place, begun at 0: the numbers that a hand is told, counted on and on from 1."""
    ring = deque(range(many))
    told = [[] for _ in range(many)]
    number = 0
    while ring:
        number += 1
        place = ring.popleft()
        told[place].append(number)
        if number % step != 0:
            ring.append(place)
    return told


@contextmanager
def no_delay(seconds=10):
    """Fail what is not answered in time, instead of waiting for it without end."""
    def fail(number, frame):
        raise AssertionError(f"not answered within {seconds} seconds")

    before = signal.signal(signal.SIGALRM, fail)
    signal.alarm(seconds)
    try:
        yield
    finally:
        signal.alarm(0)
        signal.signal(signal.SIGALRM, before)


class Refusals:
    """Assertions about what is refused; stands beside unittest.TestCase."""

    def refused(self, error, called, *given):
        """It is refused with just this error, and with no other one behind it."""
        with self.assertRaises(CountError, msg=f"{called.__name__}{given!r}") as caught:
            called(*given)
        told = caught.exception
        self.assertIs(type(told), error, f"{called.__name__}{given!r}")
        self.assertIsNone(told.__cause__)
        self.assertIsNone(told.__context__)

    def first_refused(self, called, right, wrong):
        """Of each choice of wrong arguments the first one's error comes, alone.

        right: the arguments that are taken; wrong: for each of them, from the
        left, the error and some things for which it is due whatever the others are.
        """
        for chosen in range(1, 2 ** len(wrong)):
            picked = [at for at in range(len(wrong)) if chosen >> at & 1]
            for turn in range(max(len(things) for _, things in wrong)):
                given = list(right)
                for at in picked:
                    things = wrong[at][1]
                    given[at] = things[turn % len(things)]
                self.refused(wrong[picked[0]][0], called, *given)
