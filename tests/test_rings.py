import unittest
from random import Random

from countout.errors import NoCount, NoHand, NoPlace, NoRing, NoStep
from countout.laid import row_out
from countout.rings import Ring
from tests.helping import GREATEST, NO_NUMBERS, NO_RINGS, ByHand, Refusals, lesser_step, named, no_delay


def state(ring):
    """All that a ring tells without being counted."""
    left = ring.left()
    return left, ring.gone(), [ring.due(hand) for hand in left], ring.last() if left else None


class CountedOut(unittest.TestCase):
    def goes_as_by_hand(self, many, step, begin):
        hands = named(many)
        ring, other = Ring(hands, step, begin), ByHand(hands, step, begin)
        gone = []
        for _ in range(many):
            self.assertEqual(ring.left(), list(other.ring), (many, step, begin))
            self.assertEqual(ring.gone(), gone, (many, step, begin))
            gone.append(other.count())
            self.assertEqual(ring.count(), gone[-1], (many, step, begin))
        self.assertEqual((ring.left(), ring.gone()), ([], gone))
        self.assertEqual(gone, row_out(hands, step, begin))
        self.assertEqual(Ring(hands, step, begin).counts(many), gone)

    def test_written_out(self):
        ring = Ring(["a", "b", "c", "d"], 3)
        self.assertEqual((ring.left(), ring.gone()), (["a", "b", "c", "d"], []))
        self.assertEqual(ring.count(), "c")
        self.assertEqual((ring.left(), ring.gone()), (["d", "a", "b"], ["c"]))
        self.assertEqual(ring.counts(2), ["b", "d"])
        self.assertEqual((ring.left(), ring.gone()), (["a"], ["c", "b", "d"]))
        self.assertEqual(ring.count(), "a")
        self.assertEqual((ring.left(), ring.gone()), ([], ["c", "b", "d", "a"]))

    def test_the_first_count_begins_at_begin(self):
        ring = Ring(["a", "b", "c", "d"], 2, 1)
        self.assertEqual(ring.left(), ["b", "c", "d", "a"])
        self.assertEqual(ring.counts(4), ["c", "a", "d", "b"])
        self.assertEqual(Ring(["a", "b", "c"], 1, 2).left(), ["c", "a", "b"])

    def test_small_rings_every_beginning(self):
        for many in range(1, 11):
            for step in list(range(1, 13)) + [29, 101]:
                for begin in range(many):
                    self.goes_as_by_hand(many, step, begin)

    def test_rings_of_200_hands(self):
        for step, begin in ((1, 0), (2, 199), (3, 100), (201, 1)):
            self.goes_as_by_hand(200, step, begin)

    def test_begin_left_out_is_0(self):
        for many in (1, 2, 7):
            for step in (1, 2, 8):
                ring = Ring(named(many), step)
                self.assertEqual(ring.left(), named(many))
                self.assertEqual(ring.counts(many), Ring(named(many), step, 0).counts(many))

    def test_steps_to_the_greatest_without_delay(self):
        for step in (GREATEST, GREATEST - 1, GREATEST // 7):
            for many in (1, 2, 5, 10):
                hands = named(many)
                expected = ByHand(hands, lesser_step(many, step), many - 1).rest()
                with no_delay():
                    ring = Ring(hands, step, many - 1)
                    self.assertEqual(ring.last(), expected[-1])
                    self.assertEqual([ring.due(hand) for hand in expected], list(range(1, many + 1)))
                    self.assertEqual([ring.count() for _ in hands], expected)
        with no_delay():
            self.assertEqual(Ring(named(200), GREATEST, 7).counts(200), row_out(named(200), GREATEST, 7))

    def test_several_counts_at_once_are_as_many_one_by_one(self):
        chance = Random(41)
        for _ in range(100):
            many = chance.randint(1, 30)
            hands, step, begin = named(many), chance.randint(1, 40), chance.randrange(many)
            row = row_out(hands, step, begin)
            ring = Ring(hands, step, begin)
            told = []
            while ring.left():
                if chance.random() < 0.4:
                    told.append(ring.count())
                else:
                    some = chance.randint(0, len(ring.left()))
                    found = ring.counts(some)
                    self.assertIs(type(found), list)
                    self.assertEqual(found, row[len(told):len(told) + some])
                    told.extend(found)
                self.assertEqual(ring.gone(), told)
            self.assertEqual(told, row)

    def test_no_counts_at_all(self):
        ring = Ring(["a", "b", "c"], 2, 1)
        self.assertEqual(ring.counts(0), [])
        self.assertEqual((ring.left(), ring.gone()), (["b", "c", "a"], []))
        ring.counts(3)
        self.assertEqual(ring.counts(0), [])
        self.assertEqual((ring.left(), ring.gone()), ([], ["c", "b", "a"]))

    def test_two_rings_counted_by_turns_do_not_touch_one_another(self):
        hands = named(9)
        first, second = Ring(hands, 3, 1), Ring(hands, 2, 4)
        rows = row_out(hands, 3, 1), row_out(hands, 2, 4)
        for at in range(9):
            self.assertEqual(first.count(), rows[0][at])
            self.assertEqual(second.gone(), rows[1][:at])
            self.assertEqual(second.count(), rows[1][at])
            self.assertEqual(first.gone(), rows[0][:at + 1])
        first.come("new")
        self.assertEqual((first.left(), second.left()), (["new"], []))
        second.come("new")
        self.assertEqual(second.count(), "new")
        self.assertEqual(first.left(), ["new"])


class Own(unittest.TestCase):
    def test_the_list_handed_in_stays_as_it_was(self):
        hands = ["a", "b", "c", "d"]
        ring = Ring(hands, 3, 2)
        ring.counts(3)
        ring.come("e", 0)
        ring.come("f")
        self.assertEqual(hands, ["a", "b", "c", "d"])

    def test_the_list_handed_in_may_be_changed_behind(self):
        for begin in (0, 1, 3):
            hands = ["a", "b", "c", "d"]
            ring = Ring(hands, 3, begin)
            expected = row_out(hands, 3, begin)
            hands[0] = "z"
            hands.append("y")
            hands.pop(1)
            self.assertEqual(ring.count(), expected[0])
            hands.clear()
            self.assertEqual(ring.counts(3), expected[1:])

    def test_lists_told_stay_as_they_were(self):
        ring = Ring(["a", "b", "c", "d", "e"], 2)
        left, gone, some = ring.left(), ring.gone(), ring.counts(2)
        later, went = ring.left(), ring.gone()
        ring.count()
        ring.come("f", 1)
        ring.come("g")
        self.assertEqual((left, gone, some), (["a", "b", "c", "d", "e"], [], ["b", "d"]))
        self.assertEqual((later, went), (["e", "a", "c"], ["b", "d"]))

    def test_lists_told_and_changed_by_their_owner_change_nothing(self):
        ring = Ring(["a", "b", "c", "d", "e"], 2)
        for _ in range(2):
            some = ring.counts(1) + ring.counts(0)
            expected = state(ring)
            for told in (some, ring.left(), ring.gone(), ring.counts(0)):
                self.assertIs(type(told), list)
                told.reverse()
                told.append("z")
                told[0] = "y"
                self.assertEqual(state(ring), expected)
                told.clear()
                self.assertEqual(state(ring), expected)
        some = ring.counts(3)
        some.clear()
        self.assertEqual((ring.left(), ring.gone()), ([], ["b", "d", "a", "e", "c"]))

    def test_the_ring_keeps_no_list_that_it_told(self):
        ring = Ring(["a", "b", "c"], 2)
        self.assertIsNot(ring.left(), ring.left())
        self.assertIsNot(ring.gone(), ring.gone())
        some = ring.counts(2)
        some.append("z")
        self.assertEqual(ring.gone(), ["b", "a"])


class DueAndLast(unittest.TestCase):
    def tells_as_counting_on(self, ring, step):
        """Held against another ring of the same hands that is counted to its end."""
        before = ring.left(), ring.gone()
        rest = ByHand(before[0], step).rest()
        for count, hand in enumerate(rest):
            found = ring.due(hand)
            self.assertIs(type(found), int)
            self.assertEqual(found, count + 1, (before, step, hand))
        self.assertEqual(ring.last(), rest[-1], (before, step))
        self.assertEqual((ring.left(), ring.gone()), before)

    def test_written_out(self):
        ring = Ring(["a", "b", "c", "d"], 3)
        self.assertEqual([ring.due(hand) for hand in ("a", "b", "c", "d")], [4, 2, 1, 3])
        self.assertEqual(ring.last(), "a")
        ring.count()
        self.assertEqual([ring.due(hand) for hand in ("a", "b", "d")], [3, 1, 2])
        self.assertEqual(ring.last(), "a")
        ring.come("e", 1)
        self.assertEqual(ring.left(), ["d", "e", "a", "b"])
        self.assertEqual([ring.due(hand) for hand in ("d", "e", "a", "b")], [4, 2, 1, 3])
        self.assertEqual(ring.last(), "d")

    def test_behind_each_count(self):
        for many in (1, 2, 3, 8, 13):
            for step in (1, 2, 3, 14, 30):
                for begin in (0, many - 1):
                    ring = Ring(named(many), step, begin)
                    while ring.left():
                        self.tells_as_counting_on(ring, step)
                        ring.count()

    def test_behind_any_counts_and_comings(self):
        chance = Random(43)
        for _ in range(60):
            many = chance.randint(1, 12)
            step = chance.randint(1, 20)
            ring = Ring(named(many), step, chance.randrange(many))
            for turn in range(15):
                left = len(ring.left())
                if left and chance.random() < 0.6:
                    ring.counts(chance.randint(1, min(left, 3)))
                else:
                    ring.come(f"new {turn}", chance.choice([None, 0, left, chance.randint(0, left)]))
                if ring.left():
                    self.tells_as_counting_on(ring, step)

    def test_asking_changes_nothing(self):
        asked, other = Ring(named(12), 5, 3), Ring(named(12), 5, 3)
        while other.left():
            for hand in asked.left():
                asked.due(hand)
                asked.last()
                asked.left()
                asked.gone()
            self.assertEqual(asked.count(), other.count())

    def test_what_is_due_comes_at_that_count(self):
        for hand in named(11):
            ring = Ring(named(11), 4, 2)
            ring.counts(3)
            if hand in ring.left():
                self.assertEqual(ring.counts(ring.due(hand))[-1], hand)


class Refused(unittest.TestCase, Refusals):
    def changes_nothing(self, ring, error, called, *given):
        before = state(ring)
        self.refused(error, called, *given)
        self.assertEqual(state(ring), before)

    def test_no_ring(self):
        for thing in NO_RINGS:
            self.refused(NoRing, Ring, thing, 1, 0)
            self.refused(NoRing, Ring, thing, 1)

    def test_no_step(self):
        for step in NO_NUMBERS + [0, -1, -2, -GREATEST, GREATEST + 1, GREATEST * 10, 10 ** 3999]:
            self.refused(NoStep, Ring, ["a", "b"], step, 0)
            self.refused(NoStep, Ring, ["a", "b"], step)

    def test_no_place_to_begin_at(self):
        for many in (1, 2, 200):
            for begin in NO_NUMBERS + [-1, -many, many, many + 1, GREATEST, -GREATEST, 10 ** 3999]:
                self.refused(NoPlace, Ring, named(many), 1, begin)
            self.assertEqual(Ring(named(many), 1, many - 1).count(), f"hand {many - 1}")

    def test_the_first_refusal_due_comes(self):
        self.first_refused(Ring, (["a", "b"], 2, 1), [
            (NoRing, [[], named(201), ["a", "a"], ["a", 1], ("a", "b"), "ab", None, 2, True]),
            (NoStep, [0, -1, GREATEST + 1, True, False, None, "2", [2]]),
            (NoPlace, [-1, 201, GREATEST, True, False, None, "1", [1]]),
        ])

    def test_a_list_of_which_no_ring_is_made_stays_as_it_was(self):
        alike = ["a", "b", "a"]
        self.refused(NoRing, Ring, alike, 1)
        self.assertEqual(alike, ["a", "b", "a"])
        hands = ["a", "b"]
        self.refused(NoPlace, Ring, hands, 1, 2)
        self.assertEqual(hands, ["a", "b"])

    def test_count_where_nobody_is_left(self):
        for many in (1, 3):
            ring = Ring(named(many), 2)
            ring.counts(many)
            for _ in range(3):
                self.changes_nothing(ring, NoHand, ring.count)
            ring.come("new")
            self.assertEqual(ring.count(), "new")
            self.changes_nothing(ring, NoHand, ring.count)

    def test_counts_of_more_than_are_left_or_of_no_number(self):
        for many, counted in ((1, 0), (1, 1), (5, 0), (5, 2), (5, 5), (200, 3)):
            ring = Ring(named(many), 3)
            ring.counts(counted)
            left = many - counted
            for some in NO_NUMBERS + [-1, -left - 1, left + 1, left + 2, 201, 400, GREATEST, -GREATEST, 10 ** 3999]:
                self.changes_nothing(ring, NoCount, ring.counts, some)
            self.assertEqual(len(ring.counts(left)), left)

    def test_due_of_one_who_went_or_never_was(self):
        ring = Ring(["a", "b", "c"], 2)
        for text in ("d", "", "A", "a ", "ab", "None", "0"):
            self.changes_nothing(ring, NoHand, ring.due, text)
        self.assertEqual(ring.count(), "b")
        self.changes_nothing(ring, NoHand, ring.due, "b")
        ring.counts(2)
        for text in ("a", "b", "c", "d"):
            self.changes_nothing(ring, NoHand, ring.due, text)

    def test_due_of_one_who_comes_only_later(self):
        ring = Ring(["a", "b"], 1)
        self.changes_nothing(ring, NoHand, ring.due, "c")
        ring.come("c", 0)
        self.assertEqual(ring.due("c"), 1)
        ring.count()
        self.changes_nothing(ring, NoHand, ring.due, "c")

    def test_last_where_nobody_is_left(self):
        ring = Ring(["a", "b"], 3)
        ring.counts(2)
        self.changes_nothing(ring, NoHand, ring.last)
        ring.come("c")
        self.assertEqual(ring.last(), "c")
        ring.count()
        self.changes_nothing(ring, NoHand, ring.last)


if __name__ == "__main__":
    unittest.main()
