"""Point 4.2: hands that come into a ring."""

import unittest
from random import Random

from countout.errors import NoHand, NoPlace, TooMany, TwiceTold
from countout.laid import row_out
from countout.rings import Ring
from tests.helping import GREATEST, NO_NUMBERS, ByHand, Refusals, lesser_step, named, no_delay

NO_TEXTS = [
    True, False, None, 0, 1, -1, GREATEST, 10 ** 3999, 1j, b"", b"new", bytearray(b"new"), [], ["new"], ("new",),
    {}, {"new": 1}, {"new"}, frozenset(), range(3), object(), str, len, ValueError("new"),
]
# None is a place here: behind all.
NO_PLACES = [thing for thing in NO_NUMBERS if thing is not None] + [-1, -2, GREATEST, -GREATEST, 10 ** 3999]


def full_ring(many, counted=0):
    """A ring in which so many hands have been, beginning with 200, and so many of them went."""
    ring = Ring(named(200), 7)
    for at in range(200, many):
        ring.come(f"hand {at}")
    ring.counts(counted)
    return ring


class Come(unittest.TestCase):
    def test_written_out(self):
        ring = Ring(["a", "b", "c", "d"], 3)
        self.assertEqual(ring.count(), "c")
        self.assertIsNone(ring.come("e", 1))
        self.assertEqual((ring.left(), ring.gone()), (["d", "e", "a", "b"], ["c"]))
        self.assertIsNone(ring.come("f"))
        self.assertEqual(ring.left(), ["d", "e", "a", "b", "f"])
        self.assertIsNone(ring.come("g", 0))
        self.assertEqual(ring.left(), ["g", "d", "e", "a", "b", "f"])
        self.assertEqual(ring.counts(6), ["e", "f", "a", "d", "b", "g"])
        self.assertEqual(ring.gone(), ["c", "e", "f", "a", "d", "b", "g"])

    def test_the_new_one_may_go_at_the_next_count(self):
        ring = Ring(["a", "b", "c"], 1)
        ring.come("d", 0)
        self.assertEqual(ring.count(), "d")
        self.assertEqual(ring.left(), ["a", "b", "c"])

    def comes_as_made_anew(self, many, step, counted, place):
        told = (many, step, counted, place)
        ring = Ring(named(many), step, many // 2)
        ahead = ring.counts(counted)
        expected = ring.left()
        if place is None:
            expected.append("new")
        else:
            expected.insert(place, "new")
        self.assertIsNone(ring.come("new", place))
        self.assertEqual(ring.left(), expected, told)
        self.assertEqual(ring.gone(), ahead, told)
        anew = row_out(expected, step)
        self.assertEqual(anew, ByHand(expected, step).rest(), told)
        self.assertEqual([ring.due(hand) for hand in anew], list(range(1, len(anew) + 1)), told)
        self.assertEqual(ring.last(), anew[-1], told)
        self.assertEqual([ring.count() for _ in anew], anew, told)
        self.assertEqual(ring.gone(), ahead + anew, told)

    def test_at_each_place_behind_each_count(self):
        for many in range(1, 9):
            for step in (1, 2, 3, 5, 9, 10):
                for counted in range(many + 1):
                    for place in [None] + list(range(many - counted + 1)):
                        self.comes_as_made_anew(many, step, counted, place)

    def test_behind_all_where_place_is_left_out(self):
        for many in (1, 2, 6):
            for counted in range(many + 1):
                rings = [Ring(named(many), 4) for _ in range(4)]
                for ring in rings:
                    ring.counts(counted)
                rings[0].come("new")
                rings[1].come("new", None)
                rings[2].come("new", many - counted)
                rings[3].come(place=None, hand="new")
                for ring in rings:
                    self.assertEqual(ring.left()[-1], "new")
                    self.assertEqual(ring.left(), rings[0].left())

    def test_into_a_ring_of_which_nobody_is_left(self):
        for place in (None, 0):
            ring = Ring(["a", "b"], 3)
            ring.counts(2)
            self.assertIsNone(ring.come("c", place))
            self.assertEqual((ring.left(), ring.gone()), (["c"], ["a", "b"]))
            self.assertEqual((ring.due("c"), ring.last()), (1, "c"))
            ring.come("d", 0)
            self.assertEqual(ring.left(), ["d", "c"])
            self.assertEqual(ring.counts(2), ["d", "c"])
            self.assertEqual((ring.left(), ring.gone()), ([], ["a", "b", "d", "c"]))

    def test_any_text_may_come(self):
        ring = Ring(["a"], 1)
        for text in ("", " ", "A", "a ", "True", "\n", "\ud800", "x" * 100000):
            self.assertIsNone(ring.come(text))
            self.assertEqual(ring.left()[-1], text)
            self.assertEqual(ring.due(text), len(ring.left()))

    def test_any_counts_and_comings(self):
        chance = Random(47)
        for _ in range(80):
            many = chance.randint(1, 15)
            step, begin = chance.randint(1, 25), chance.randrange(many)
            self.goes_by_turns(chance, Ring(named(many), step, begin), ByHand(named(many), step, begin), 25)

    def test_any_counts_and_comings_by_the_greatest_steps(self):
        chance = Random(53)
        for step in (GREATEST, GREATEST - 1, 10 ** 30 + 3):
            # At most 10 hands are ever in: all steps that are alike in each such ring go the same way.
            with no_delay():
                self.goes_by_turns(chance, Ring(named(4), step, 3), ByHand(named(4), lesser_step(10, step), 3), 6)

    def goes_by_turns(self, chance, ring, other, turns):
        gone = []
        for turn in range(turns):
            left = len(other.ring)
            if left and chance.random() < 0.5:
                gone.append(other.count())
                self.assertEqual(ring.count(), gone[-1])
            else:
                place = chance.randint(0, left)
                other.ring.insert(place, f"new {turn}")
                self.assertIsNone(ring.come(f"new {turn}", None if place == left and turn % 2 else place))
            self.assertEqual(ring.left(), list(other.ring))
            self.assertEqual(ring.gone(), gone)
        rest = other.rest()
        self.assertEqual(ring.counts(len(rest)), rest)
        self.assertEqual(ring.gone(), gone + rest)

    def test_to_400_hands(self):
        ring = Ring(named(200), 7)
        other = ByHand(named(200), 7)
        for at in range(200, 400):
            place = at * at % (len(other.ring) + 1)
            other.ring.insert(place, f"hand {at}")
            ring.come(f"hand {at}", place)
        self.assertEqual(ring.left(), list(other.ring))
        self.assertEqual(sorted(ring.left()), sorted(named(400)))
        rest = other.rest()
        self.assertEqual(ring.last(), rest[-1])
        self.assertEqual(ring.due(rest[300]), 301)
        self.assertEqual(ring.counts(400), rest)


class Refused(unittest.TestCase, Refusals):
    def refuses(self, ring, error, *given):
        before = ring.left(), ring.gone()
        self.refused(error, ring.come, *given)
        self.assertEqual((ring.left(), ring.gone()), before)

    def test_no_hand(self):
        ring = Ring(["a", "b", "c"], 2)
        for counted in (0, 1, 2):
            ring.counts(counted)
            for thing in NO_TEXTS:
                self.refuses(ring, NoHand, thing)
                self.refuses(ring, NoHand, thing, None)
                self.refuses(ring, NoHand, thing, 0)
        self.assertEqual(ring.left(), [])

    def test_twice_told(self):
        ring = Ring(["a", "b", "c", "d"], 2)
        ring.counts(2)
        ring.come("e", 0)
        ring.come("f")
        self.assertEqual(ring.count(), "a")
        for hand in ("a", "b", "c", "d", "e", "f"):
            for given in ((hand,), (hand, None), (hand, 0), (hand, 2)):
                self.refuses(ring, TwiceTold, *given)
        ring.counts(3)
        for hand in ("a", "b", "c", "d", "e", "f"):
            self.refuses(ring, TwiceTold, hand)
        ring.come("g")
        self.assertEqual(ring.left(), ["g"])

    def test_no_place(self):
        for many, counted in ((1, 0), (1, 1), (5, 0), (5, 2), (5, 5), (200, 0)):
            ring = Ring(named(many), 3)
            ring.counts(counted)
            left = many - counted
            for place in NO_PLACES + [-left - 1, left + 1, left + 2, 401]:
                self.refuses(ring, NoPlace, "new", place)

    def test_refused_for_its_place_a_hand_comes_in_by_a_right_one(self):
        ring = Ring(["a", "b"], 2)
        self.refuses(ring, NoPlace, "c", 3)
        self.refuses(ring, NoPlace, "c", -1)
        self.refuses(ring, NoPlace, "c", True)
        self.assertIsNone(ring.come("c", 2))
        self.assertEqual(ring.left(), ["a", "b", "c"])
        self.refuses(ring, TwiceTold, "c", 2)

    def test_too_many(self):
        for counted in (0, 1, 150, 400):
            ring = full_ring(400, counted)
            for given in (("new",), ("new", None), ("new", 0), ("new", 400 - counted), ("", 0)):
                self.refuses(ring, TooMany, *given)

    def test_the_400th_may_come(self):
        for counted in (0, 1, 150, 399):
            ring = full_ring(399, counted)
            self.assertIsNone(ring.come("the last one", 0))
            self.assertEqual(ring.left()[0], "the last one")
            self.refuses(ring, TooMany, "new")

    def test_they_who_went_have_been_in(self):
        ring = Ring(["a"], 1)
        for at in range(399):
            ring.count()
            ring.come(f"hand {at}")
        self.refuses(ring, TooMany, "new")
        ring.count()
        self.refuses(ring, TooMany, "new")
        self.assertEqual((ring.left(), len(ring.gone())), ([], 400))

    def test_refused_hands_have_not_been_in(self):
        ring = full_ring(399)
        for _ in range(3):
            self.refuses(ring, NoPlace, "new", 400)
            self.refuses(ring, TwiceTold, "hand 7")
            self.refuses(ring, NoHand, 7)
        self.assertIsNone(ring.come("new", 399))

    def test_the_first_refusal_due_comes(self):
        for ring in (full_ring(400, 150), full_ring(400, 400), Ring(["hand 1", "hand 300", "hand 399"], 2)):
            full = len(ring.left()) + len(ring.gone()) == 400
            for place in NO_PLACES + [None, 0, 401]:
                for thing in NO_TEXTS:
                    self.refuses(ring, NoHand, thing, place)
                for hand in ("hand 1", "hand 300", "hand 399"):
                    self.refuses(ring, TwiceTold, hand, place)
            for place in NO_PLACES + [401, len(ring.left()) + 1]:
                self.refuses(ring, NoPlace, "new", place)
            if full:
                self.refuses(ring, TooMany, "new", len(ring.left()))


if __name__ == "__main__":
    unittest.main()
