"""What several tests need: going round hand by hand, wrong things, a limit of time."""

import signal
from collections import deque
from contextlib import contextmanager
from math import lcm

from countout.errors import CountError

GREATEST = 10 ** 60

# Things that are no numbers at all: none of them is a step, a place, a count ..
# The ones that Python takes for numbers, True and False, stand first.
NO_NUMBERS = [
    True, False, None, "", "1", "0", "a", b"", b"1", [], [1], ["a"], (), (1,), {}, {1: 1},
    set(), {1}, frozenset(), range(3), 1j, object(), int, len, lambda: 1, ValueError("1"),
]


def named(many):
    """So many hands, no two alike."""
    return [f"hand {at}" for at in range(many)]


NO_RINGS = [
    [], named(201), named(500),
    ["a", "a"], ["a", "b", "a"], ["", "b", ""], named(199) + ["hand 0"], named(200) + ["hand 199"],
    [1], [True], [None], [b"a"], [["a"]], [("a",)], [{}], [{"a"}], [object()], [str],
    ["a", 1], [0, "a"], ["a", None], ["a", "b", b"c"], ["a", ["b"]], [["a"], ["a"]], [1, 1], ["a", "a", 3],
    named(199) + [7],
    (), ("a",), ("a", "b"), {}, {"a": 1}, {0: "a"}, {"a"}, {"a", "b"}, frozenset(["a"]), dict.fromkeys("ab").keys(),
    "", "a", "abc", b"", b"abc", bytearray(b"ab"), range(3), iter(["a"]), (hand for hand in ["a"]),
    0, 1, 3, -1, GREATEST, 1j, True, False, None, object(), list, named, ValueError(["a"]),
]


class ByHand:
    """A ring gone round hand by hand, each count said aloud; whoever is told the next one stands in front."""

    def __init__(self, hands, step, begin=0):
        self.ring = deque(hands)
        self.step = step
        self.pass_by(begin)

    def pass_by(self, times):
        for _ in range(times):
            self.ring.append(self.ring.popleft())

    def count(self):
        self.pass_by(self.step - 1)
        return self.ring.popleft()

    def rest(self):
        """Those that are left, in the order in which they go; it is counted on in another ring."""
        other = ByHand(self.ring, self.step)
        return [other.count() for _ in range(len(other.ring))]


def go_round(many, step, begin):
    """The places in the order in which they go, each count said aloud, one by one."""
    return ByHand(range(many), step, begin).rest()


def lesser_step(many, step):
    """A step that is less by whole rounds of every ring of at most so many: it goes the same way."""
    return (step - 1) % lcm(*range(1, many + 1)) + 1


def numbers_told(many, step):
    """Place by place, begun at 0: the numbers that a hand is told, counted on and on from 1."""
    ring = deque(range(many))
    told = [[] for _ in range(many)]
    number = 0
    while ring:
        number += 1
        place = ring.popleft()
        told[place].append(number)
        if number % step != 0:
            ring.append(place)
    return told


@contextmanager
def no_delay(seconds=10):
    """Fail what is not answered in time, instead of waiting for it without end."""
    def fail(number, frame):
        raise AssertionError(f"not answered within {seconds} seconds")

    before = signal.signal(signal.SIGALRM, fail)
    signal.alarm(seconds)
    try:
        yield
    finally:
        signal.alarm(0)
        signal.signal(signal.SIGALRM, before)


class Refusals:
    """Assertions about what is refused; stands beside unittest.TestCase."""

    def refused(self, error, called, *given):
        """It is refused with just this error, and with no other one behind it."""
        with self.assertRaises(CountError, msg=f"{called.__name__}{given!r}") as caught:
            called(*given)
        told = caught.exception
        self.assertIs(type(told), error, f"{called.__name__}{given!r}")
        self.assertIsNone(told.__cause__)
        self.assertIsNone(told.__context__)

    def first_refused(self, called, right, wrong):
        """Of each choice of wrong arguments the first one's error comes, alone.

        right: the arguments that are taken; wrong: for each of them, from the
        left, the error and some things for which it is due whatever the others are.
        """
        for chosen in range(1, 2 ** len(wrong)):
            picked = [at for at in range(len(wrong)) if chosen >> at & 1]
            for turn in range(max(len(things) for _, things in wrong)):
                given = list(right)
                for at in picked:
                    things = wrong[at][1]
                    given[at] = things[turn % len(things)]
                self.refused(wrong[picked[0]][0], called, *given)
