import copy
import unittest

from countout.errors import NoPlace, NoRing, NoStep
from countout.laid import is_ring, row_out
from tests.helping import GREATEST, NO_NUMBERS, NO_RINGS, Refusals, go_round, lesser_step, named, no_delay


class IsRing(unittest.TestCase):
    def test_lists_of_texts_of_each_length_taken(self):
        for many in range(1, 201):
            self.assertIs(is_ring(named(many)), True, many)

    def test_any_text_is_a_hand(self):
        for ring in (
            [""], ["", " "], ["a", ""], ["a", "A"], ["a", "a "], ["1", "01"], ["True", "None"],
            ["\n", "\x00"], ["e\u0301", "\u00e9"], ["\ud800", "\U0001f590"], ["x" * 100000, "x" * 100001],
        ):
            self.assertIs(is_ring(ring), True, ring)

    def test_the_order_of_the_hands_is_free(self):
        self.assertIs(is_ring(["c", "a", "b"]), True)

    def test_what_is_no_ring(self):
        for thing in NO_RINGS:
            self.assertIs(is_ring(thing), False, repr(thing)[:60])

    def test_a_list_that_holds_itself(self):
        ring = ["a"]
        ring.append(ring)
        self.assertIs(is_ring(ring), False)

    def test_what_is_asked_about_stays_as_it_was(self):
        for thing in (["b", "a"], ["a", "a"], ["a", 1], [], {"a": 1}):
            before = copy.deepcopy(thing)
            is_ring(thing)
            self.assertEqual(thing, before)


class RowOut(unittest.TestCase, Refusals):
    def goes_as_by_hand(self, many, step, begin):
        hands = named(many)
        expected = [hands[at] for at in go_round(many, step, begin)]
        self.assertEqual(row_out(hands, step, begin), expected, (many, step, begin))

    def test_written_out(self):
        self.assertEqual(row_out(["a", "b", "c", "d"], 3, 0), ["c", "b", "d", "a"])
        self.assertEqual(row_out(["a", "b", "c", "d"], 2, 1), ["c", "a", "d", "b"])
        self.assertEqual(row_out(["a", "b", "c"], 1, 1), ["b", "c", "a"])
        self.assertEqual(row_out(["a", "b", "c"], 5, 2), ["a", "b", "c"])

    def test_one_hand(self):
        for step in (1, 2, 3, 100, GREATEST):
            self.assertEqual(row_out(["a"], step, 0), ["a"])
            self.assertEqual(row_out([""], step), [""])

    def test_small_rings_every_beginning(self):
        for many in range(1, 16):
            for step in list(range(1, 20)) + [29, 30, 31, 60, 101]:
                for begin in range(many):
                    self.goes_as_by_hand(many, step, begin)

    def test_rings_of_200_hands(self):
        for step in (1, 2, 3, 7, 199, 200, 201, 400, 1009):
            for begin in (0, 1, 100, 199):
                self.goes_as_by_hand(200, step, begin)

    def test_begin_left_out_is_0(self):
        for many in range(1, 12):
            for step in (1, 2, 3, 12):
                expected = [named(many)[at] for at in go_round(many, step, 0)]
                self.assertEqual(row_out(named(many), step), expected)

    def test_steps_to_the_greatest_without_delay(self):
        for step in (GREATEST, GREATEST - 1, GREATEST // 3, 10 ** 30 + 7):
            for many in (1, 2, 5, 11, 12):
                for begin in (0, many - 1):
                    with no_delay():
                        found = row_out(named(many), step, begin)
                    expected = [f"hand {at}" for at in go_round(many, lesser_step(many, step), begin)]
                    self.assertEqual(found, expected, (many, step, begin))
        with no_delay():
            self.assertEqual(sorted(row_out(named(200), GREATEST, 199)), sorted(named(200)))

    def test_the_list_handed_in_stays_as_it_was(self):
        hands = ["a", "b", "c", "d"]
        row_out(hands, 3, 2)
        self.assertEqual(hands, ["a", "b", "c", "d"])

    def test_the_list_told_is_the_askers_own(self):
        for hands, step in ((["a", "b", "c"], 1), (["a", "b", "c"], 2), (["a"], 1)):
            told = row_out(hands, step)
            self.assertIs(type(told), list)
            self.assertIsNot(told, hands)
            before = list(told)
            told.clear()
            told.append("x")
            self.assertEqual(row_out(hands, step), before)
            self.assertEqual(len(hands), len(before))

    def test_a_list_changed_by_its_owner_changes_no_answer_told_before(self):
        hands = ["a", "b", "c"]
        told = row_out(hands, 2)
        hands[0] = "z"
        self.assertEqual(told, ["b", "a", "c"])
        self.assertEqual(row_out(hands, 2), ["b", "z", "c"])

    def test_no_ring(self):
        for thing in NO_RINGS:
            self.refused(NoRing, row_out, thing, 1, 0)
            self.refused(NoRing, row_out, thing, 1)

    def test_no_step(self):
        for step in NO_NUMBERS + [0, -1, -2, -GREATEST, GREATEST + 1, GREATEST * 10, 10 ** 3999]:
            self.refused(NoStep, row_out, ["a", "b"], step, 0)
            self.refused(NoStep, row_out, ["a", "b"], step)

    def test_no_place(self):
        for many in (1, 2, 200):
            for begin in NO_NUMBERS + [-1, -many, many, many + 1, GREATEST, -GREATEST, 10 ** 3999]:
                self.refused(NoPlace, row_out, named(many), 1, begin)
            self.assertEqual(row_out(named(many), 1, many - 1)[0], f"hand {many - 1}")

    def test_the_first_refusal_due_comes(self):
        self.first_refused(row_out, (["a", "b"], 2, 1), [
            (NoRing, [[], named(201), ["a", "a"], ["a", 1], ("a", "b"), "ab", None, 2, True]),
            (NoStep, [0, -1, GREATEST + 1, True, False, None, "2", [2]]),
            (NoPlace, [-1, 201, GREATEST, True, False, None, "1", [1]]),
        ])

    def test_what_is_refused_changes_nothing(self):
        hands = ["a", "b", "c"]
        for step, begin in ((0, 0), (1, 3), (GREATEST + 1, -1)):
            with self.assertRaises(ValueError):
                row_out(hands, step, begin)
            self.assertEqual(hands, ["a", "b", "c"])
        alike = ["a", "b", "a"]
        self.refused(NoRing, row_out, alike, 1)
        self.assertEqual(alike, ["a", "b", "a"])


if __name__ == "__main__":
    unittest.main()
