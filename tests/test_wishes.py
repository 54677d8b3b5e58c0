import unittest
from random import Random

from countout.errors import NoCount, NoMany, NoPlace, NoStep
from countout.leaps import last_of
from countout.wishes import begin_for, least_step
from tests.helping import GREATEST, NO_NUMBERS, Refusals, go_round, no_delay


class BeginFor(unittest.TestCase):
    def test_written_out(self):
        # Of four counted by threes the first one stays, of 41 the one at place 30.
        self.assertEqual([begin_for(4, 3, place) for place in range(4)], [0, 1, 2, 3])
        self.assertEqual(begin_for(41, 3, 30), 0)
        self.assertEqual(begin_for(41, 3, 31), 1)
        self.assertEqual(begin_for(41, 3, 29), 40)
        self.assertEqual(begin_for(5, 1, 4), 0)
        self.assertEqual(begin_for(5, 1, 0), 1)

    def from_no_other(self, many, step):
        lasts = [go_round(many, step, begin)[-1] for begin in range(many)]
        for place in range(many):
            begins = [begin for begin in range(many) if lasts[begin] == place]
            self.assertEqual([begin_for(many, step, place)], begins, (many, step, place))

    def test_every_place_by_hand_and_from_no_other_beginning(self):
        for many in range(1, 31):
            for step in (1, 2, 3, 4, 5):
                self.from_no_other(many, step)
        for many in (1, 2, 3, 5, 12, 20, 31):
            for step in (9, 30, 64, 99, 100):
                self.from_no_other(many, step)

    def test_one_hand(self):
        for step in range(1, 101):
            self.assertEqual(begin_for(1, step, 0), 0)

    def held_against_last_of(self, many, step, place):
        with no_delay():
            begin = begin_for(many, step, place)
            self.assertIs(type(begin), int)
            self.assertIn(begin, range(many))
            self.assertEqual(last_of(many, step, begin), place, (many, step, place))
            for other in (begin - 1, begin + 1, begin + many // 2, 0, place):
                if other % many != begin:
                    self.assertNotEqual(last_of(many, step, other % many), place)

    def test_great_rings_without_delay(self):
        for many in (GREATEST, GREATEST - 1, 10 ** 59 + 7, 10 ** 30, 2 ** 199, 10 ** 9 + 7):
            for step in (1, 2, 3, 7, 50, 99, 100):
                for place in (0, 1, many // 3, many - 1):
                    self.held_against_last_of(many, step, place)

    def test_random_rings(self):
        chance = Random(31)
        for _ in range(150):
            many = chance.randint(1, 10 ** chance.randint(1, 60))
            self.held_against_last_of(many, chance.randint(1, 100), chance.randrange(many))


class LeastStep(unittest.TestCase):
    def least_of(self, lasts, place, most):
        """The least step up to most, lasts[0] being who stays last by step 1."""
        for step in range(1, most + 1):
            if lasts[step - 1] == place:
                return step
        return None

    def lasts(self, many, most):
        return [go_round(many, step, 0)[-1] for step in range(1, most + 1)]

    def as_by_hand(self, many, mosts):
        lasts = self.lasts(many, max(mosts))
        for place in range(many):
            for most in mosts:
                found = least_step(many, place, most)
                self.assertEqual(found, self.least_of(lasts, place, most), (many, place, most))
                self.assertIn(type(found), (int, type(None)))
            self.assertEqual(least_step(many, place), self.least_of(lasts, place, 100), (many, place))

    def test_written_out(self):
        self.assertEqual([least_step(2, place) for place in (0, 1)], [2, 1])
        self.assertEqual([least_step(4, place, 4) for place in (0, 1, 2, 3)], [2, 4, None, 1])
        self.assertEqual(least_step(4, 2), 6)

    def test_rings_to_ten(self):
        for many in range(1, 11):
            self.as_by_hand(many, list(range(0, 21)) + [99, 100, 101, 499, 500])

    def test_greater_rings(self):
        # The hand at place 17 of 50 waits the longest of all: it stays by step 406 at the least.
        for many in (17, 41, 50, 60):
            self.as_by_hand(many, [0, 1, 2, 7, 41, 99, 100, 101, 300, 301, 405, 406, 500])

    def test_most_0_leaves_no_step(self):
        for many in (1, 2, 10, 60):
            for place in (0, many - 1):
                self.assertIsNone(least_step(many, place, 0))

    def test_most_1_leaves_step_1_by_which_the_hindmost_stays(self):
        for many in range(1, 61):
            self.assertEqual(least_step(many, many - 1, 1), 1)
            for place in range(many - 1):
                self.assertIsNone(least_step(many, place, 1))

    def test_just_at_most_and_one_less(self):
        for many in (3, 10, 30, 60):
            for place in range(many):
                least = least_step(many, place, 500)
                if least is not None:
                    self.assertEqual(least_step(many, place, least), least)
                    self.assertIsNone(least_step(many, place, least - 1))

    def test_most_left_out_is_100(self):
        # Some places of a ring of 60 stay last by greater steps only.
        steps = {place: least_step(60, place, 500) for place in range(60)}
        self.assertTrue(any(step is not None and step > 100 for step in steps.values()))
        for place, step in steps.items():
            expected = step if step is not None and step <= 100 else None
            self.assertEqual(least_step(60, place), expected)
        hundred = [(many, place) for many in range(1, 61) for place in range(many)
                   if least_step(many, place, 100) == 100]
        self.assertNotEqual(hundred, [])
        for many, place in hundred:
            self.assertEqual(least_step(many, place), 100)
            self.assertIsNone(least_step(many, place, 99))


class Refused(unittest.TestCase, Refusals):
    def test_begin_for_no_many(self):
        for many in NO_NUMBERS + [0, -1, -GREATEST, GREATEST + 1, GREATEST * 10, 10 ** 3999]:
            self.refused(NoMany, begin_for, many, 2, 0)

    def test_begin_for_no_step(self):
        for many in (1, 3, GREATEST):
            for step in NO_NUMBERS + [0, -1, -100, 101, 102, 1000, GREATEST, 10 ** 3999]:
                self.refused(NoStep, begin_for, many, step, 0)

    def test_begin_for_no_place(self):
        for many in (1, 2, 40, GREATEST):
            for place in NO_NUMBERS + [-1, -many, many, many + 1, GREATEST, -GREATEST, 10 ** 3999]:
                self.refused(NoPlace, begin_for, many, 2, place)

    def test_least_step_no_many(self):
        for many in NO_NUMBERS + [0, -1, -60, 61, 62, 200, GREATEST, 10 ** 3999]:
            self.refused(NoMany, least_step, many, 0, 5)
            self.refused(NoMany, least_step, many, 0)

    def test_least_step_no_place(self):
        for many in (1, 2, 40, 60):
            for place in NO_NUMBERS + [-1, -many, many, many + 1, GREATEST, -GREATEST, 10 ** 3999]:
                self.refused(NoPlace, least_step, many, place, 5)
                self.refused(NoPlace, least_step, many, place)

    def test_least_step_no_count(self):
        for many in (1, 3, 60):
            for most in NO_NUMBERS + [-1, -2, -500, 501, 502, GREATEST, -GREATEST, 10 ** 3999]:
                self.refused(NoCount, least_step, many, 0, most)

    def test_just_within_the_bounds_nothing_is_refused(self):
        for many in (1, GREATEST):
            for step in (1, 100):
                for place in (0, many - 1):
                    with no_delay():
                        self.assertIn(begin_for(many, step, place), range(many))
        for many in (1, 60):
            for place in (0, many - 1):
                for most in (0, 1, 500):
                    with no_delay():
                        self.assertIn(least_step(many, place, most), [None] + list(range(1, most + 1)))

    def test_the_first_refusal_due_comes(self):
        place = (NoPlace, [-1, GREATEST, True, False, None, "1", [1]])
        self.first_refused(begin_for, (3, 2, 1), [
            (NoMany, [0, -1, GREATEST + 1, True, False, None, "3", [3]]),
            (NoStep, [0, 101, -1, True, False, None, "2", [2], GREATEST]),
            place,
        ])
        self.first_refused(least_step, (3, 2, 1), [
            (NoMany, [0, -1, 61, True, False, None, "3", [3]]),
            place,
            (NoCount, [-1, 501, GREATEST, True, False, None, "1", [1]]),
        ])


if __name__ == "__main__":
    unittest.main()
