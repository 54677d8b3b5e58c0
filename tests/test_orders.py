import unittest

from countout.errors import NoMany, NoPlace, NoStep
from countout.orders import counts_of, order_of
from tests.helping import GREATEST, NO_NUMBERS, Refusals, go_round, lesser_step, no_delay

BOTH = (order_of, counts_of)


class ByHand(unittest.TestCase):
    def are_places(self, order, counts, expected, told):
        """The order is the one expected, and the counts are its other way round; both of plain numbers."""
        self.assertEqual(order, expected, told)
        self.assertEqual(len(counts), len(order), told)
        for place, count in enumerate(counts):
            self.assertEqual(expected[count - 1], place, told)
        for at, place in enumerate(order):
            self.assertEqual(counts[place], at + 1, told)
        for found in (order, counts):
            self.assertIs(type(found), list)
            self.assertEqual({type(number) for number in found}, {int})

    def goes_as_by_hand(self, many, step, begin):
        told = (many, step, begin)
        self.are_places(order_of(*told), counts_of(*told), go_round(*told), told)

    def test_written_out(self):
        self.assertEqual(order_of(4, 3, 0), [2, 1, 3, 0])
        self.assertEqual(counts_of(4, 3, 0), [4, 2, 1, 3])
        self.assertEqual(order_of(4, 2, 1), [2, 0, 3, 1])
        self.assertEqual(counts_of(4, 2, 1), [2, 4, 1, 3])
        self.assertEqual(order_of(5, 1, 3), [3, 4, 0, 1, 2])
        self.assertEqual(counts_of(5, 1, 3), [3, 4, 5, 1, 2])

    def test_small_rings_every_beginning(self):
        for many in range(1, 13):
            for step in list(range(1, 15)) + [40, 101]:
                for begin in range(many):
                    self.goes_as_by_hand(many, step, begin)

    def test_rings_to_forty(self):
        for many in range(13, 41):
            for step in (1, 2, 3, 7, many, many + 1, 3 * many - 1):
                for begin in (0, 1, many // 2, many - 1):
                    self.goes_as_by_hand(many, step, begin)

    def test_rings_of_200(self):
        for many in (199, 200):
            for step in (1, 2, 3, 100, 200, 201, 1009):
                for begin in (0, 77, many - 1):
                    self.goes_as_by_hand(many, step, begin)

    def test_one_place(self):
        for step in (1, 2, 3, 100, GREATEST):
            self.assertEqual(order_of(1, step, 0), [0])
            self.assertEqual(counts_of(1, step, 0), [1])

    def test_begin_left_out_is_0(self):
        for many in (1, 2, 3, 10, 40, 200):
            for step in (1, 2, 3, many + 1):
                self.are_places(order_of(many, step), counts_of(many, step), go_round(many, step, 0), (many, step))

    def test_steps_to_the_greatest_without_delay(self):
        for step in (GREATEST, GREATEST - 1, GREATEST // 7, 10 ** 30 + 9):
            for many in (1, 2, 3, 5, 10, 12):
                for begin in (0, many - 1):
                    with no_delay():
                        order, counts = (called(many, step, begin) for called in BOTH)
                    expected = go_round(many, lesser_step(many, step), begin)
                    self.are_places(order, counts, expected, (many, step, begin))
        for begin in (0, 199):
            with no_delay():
                order, counts = (called(200, GREATEST, begin) for called in BOTH)
            self.assertEqual(sorted(order), list(range(200)))
            # By the greatest step whole rounds of 200 go by, and the last of a round is told it.
            self.assertEqual(order[0], (begin + 199) % 200)
            self.are_places(order, counts, order, begin)


class Own(unittest.TestCase):
    def test_the_list_told_is_the_askers_own(self):
        for called in BOTH:
            for given in ((1, 1), (4, 3, 1), (200, 7, 5)):
                told = called(*given)
                before = list(told)
                self.assertIsNot(called(*given), told)
                told.reverse()
                told.append(7)
                told[0] = 1000
                self.assertEqual(called(*given), before)
                told.clear()
                self.assertEqual(called(*given), before)

    def test_one_list_is_not_the_other(self):
        order = order_of(3, 1)
        counts = counts_of(3, 1)
        order.clear()
        self.assertEqual(counts, [1, 2, 3])
        counts.clear()
        self.assertEqual(order_of(3, 1), [0, 1, 2])


class Refused(unittest.TestCase, Refusals):
    def test_no_many(self):
        for many in NO_NUMBERS + [0, -1, -200, 201, 202, 400, GREATEST, GREATEST + 1, 10 ** 3999, -10 ** 3999]:
            for called in BOTH:
                self.refused(NoMany, called, many, 2, 0)
                self.refused(NoMany, called, many, 2)

    def test_no_step(self):
        for step in NO_NUMBERS + [0, -1, -GREATEST, GREATEST + 1, GREATEST * 10, 10 ** 3999]:
            for called in BOTH:
                for many in (1, 3, 200):
                    self.refused(NoStep, called, many, step, 0)
                    self.refused(NoStep, called, many, step)

    def test_no_place(self):
        for many in (1, 2, 40, 200):
            for begin in NO_NUMBERS + [-1, -many, many, many + 1, GREATEST, -GREATEST, 10 ** 3999]:
                for called in BOTH:
                    self.refused(NoPlace, called, many, 2, begin)

    def test_just_within_the_bounds_nothing_is_refused(self):
        for many in (1, 200):
            for step in (1, GREATEST):
                for begin in (0, many - 1):
                    for called in BOTH:
                        self.assertEqual(len(called(many, step, begin)), many)

    def test_the_first_refusal_due_comes(self):
        for called in BOTH:
            self.first_refused(called, (3, 2, 1), [
                (NoMany, [0, -1, 201, GREATEST, True, False, None, "3", [3]]),
                (NoStep, [0, -1, GREATEST + 1, True, False, None, "2", [2]]),
                (NoPlace, [-1, 200, GREATEST, True, False, None, "1", [1]]),
            ])


if __name__ == "__main__":
    unittest.main()
