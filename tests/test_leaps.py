import unittest
from random import Random

from countout.errors import NoCount, NoMany, NoPlace, NoStep
from countout.laid import row_out
from countout.leaps import count_of, goes_at, last_of
from tests.helping import GREATEST, NO_NUMBERS, Refusals, go_round, no_delay, numbers_told

GREAT = [GREATEST, GREATEST - 1, 10 ** 59 + 7, 10 ** 40, 10 ** 20 + 1, 2 ** 199, 10 ** 9, 12345]
STEPS = [1, 2, 3, 4, 7, 10, 41, 50, 99, 100]
BELOW_OR_ABOVE_STEPS = [0, -1, -100, 101, 102, 1000, GREATEST, 10 ** 3999]


def place_by_growing(many, step, begin, count):
    """The place of whom goes at the count, found the other way: by letting a ring grow.

    In the ring that is left at that count the hand is the step'th; each hand
    that went before is put back, and moves all places on by the step. Many are
    put back at once, as long as the places do not come to the ring's end.
    """
    left = many - count + 1
    place = (step - 1) % left
    while left < many:
        if step == 1:
            return (place + many - left + begin) % many
        # (place + n * step) < left + n for all n up to here.
        turns = max(1, min(many - left, (left - place - 1) // (step - 1)))
        left += turns
        place = (place + turns * step) % left
    return (place + begin) % many


def random_rings(seed, how_many):
    """Rings of every length of number, with steps to 100: many, step, begin."""
    chance = Random(seed)
    for _ in range(how_many):
        many = chance.randint(1, 10 ** chance.randint(1, 60))
        step = chance.randint(1, 100)
        yield many, step, chance.choice([0, many - 1, chance.randrange(many)])


class ByHand(unittest.TestCase):
    def goes_as_by_hand(self, many, step, begin):
        order = go_round(many, step, begin)
        for at, place in enumerate(order):
            self.assertEqual(goes_at(many, step, begin, at + 1), place, (many, step, begin, at + 1))
            self.assertEqual(count_of(many, step, begin, place), at + 1, (many, step, begin, place))
        self.assertEqual(last_of(many, step, begin), order[-1], (many, step, begin))

    def test_written_out(self):
        self.assertEqual([goes_at(4, 3, 0, count) for count in (1, 2, 3, 4)], [2, 1, 3, 0])
        self.assertEqual([count_of(4, 3, 0, place) for place in (0, 1, 2, 3)], [4, 2, 1, 3])
        self.assertEqual(last_of(4, 3, 0), 0)
        self.assertEqual([goes_at(4, 2, 1, count) for count in (1, 2, 3, 4)], [2, 0, 3, 1])
        self.assertEqual(last_of(41, 3), 30)

    def test_rings_to_forty_small_steps_every_beginning_place_and_count(self):
        for many in range(1, 41):
            for step in range(1, 8):
                for begin in range(many):
                    self.goes_as_by_hand(many, step, begin)

    def test_small_rings_every_step(self):
        for many in range(1, 9):
            for step in range(1, 101):
                for begin in range(many):
                    self.goes_as_by_hand(many, step, begin)

    def test_rings_to_forty_some_steps_to_100(self):
        for many in (9, 10, 16, 25, 39, 40, 41):
            for step in (9, 40, 41, 64, 99, 100):
                for begin in range(many):
                    self.goes_as_by_hand(many, step, begin)

    def test_as_rings_laid_out_go(self):
        for many, step, begin in ((200, 100, 199), (200, 1, 3), (199, 2, 0), (128, 17, 64)):
            hands = [str(place) for place in range(many)]
            told = [str(goes_at(many, step, begin, count)) for count in range(1, many + 1)]
            self.assertEqual(told, row_out(hands, step, begin))

    def test_begin_left_out_is_0(self):
        for many in range(1, 41):
            for step in (1, 2, 3, 7, 40, 100):
                self.assertEqual(last_of(many, step), go_round(many, step, 0)[-1])
        self.assertEqual(last_of(GREATEST, 100), last_of(GREATEST, 100, 0))

    def test_one_hand(self):
        for step in range(1, 101):
            self.assertEqual(count_of(1, step, 0, 0), 1)
            self.assertEqual(goes_at(1, step, 0, 1), 0)
            self.assertEqual(last_of(1, step, 0), 0)
            self.assertEqual(last_of(1, step), 0)


class Great(unittest.TestCase):
    def is_number(self, told, low, high):
        self.assertIs(type(told), int)
        self.assertTrue(low <= told <= high, told)

    def there_and_back(self, many, step, begin, place, count):
        with no_delay():
            at = count_of(many, step, begin, place)
            who = goes_at(many, step, begin, count)
            last = last_of(many, step, begin)
            self.is_number(at, 1, many)
            self.is_number(who, 0, many - 1)
            self.is_number(last, 0, many - 1)
            self.assertEqual(goes_at(many, step, begin, at), place, (many, step, begin, place))
            self.assertEqual(count_of(many, step, begin, who), count, (many, step, begin, count))
            self.assertEqual(last, goes_at(many, step, begin, many), (many, step, begin))
            self.assertEqual(who, place_by_growing(many, step, begin, count))
            self.assertEqual(last, place_by_growing(many, step, begin, many))

    def test_growing_goes_as_by_hand(self):
        for many in range(1, 25):
            for step in (1, 2, 3, 5, 24, 100):
                for begin in (0, many // 2, many - 1):
                    told = [place_by_growing(many, step, begin, count) for count in range(1, many + 1)]
                    self.assertEqual(told, go_round(many, step, begin))

    def test_first_and_last_place_and_count(self):
        for many in GREAT:
            for step in STEPS:
                for begin in (0, many // 3, many - 1):
                    self.there_and_back(many, step, begin, 0, 1)
                    self.there_and_back(many, step, begin, many - 1, many)

    def test_random_rings_places_and_counts(self):
        chance = Random(2)
        for many, step, begin in random_rings(1, 150):
            self.there_and_back(many, step, begin, chance.randrange(many), chance.randint(1, many))

    def test_the_first_rounds_of_the_greatest_ring(self):
        for step in STEPS:
            for begin in (0, GREATEST - 1):
                for count in (1, 2, 10 ** 57):
                    place = (begin + count * step - 1) % GREATEST
                    self.assertEqual(goes_at(GREATEST, step, begin, count), place)
                    self.assertEqual(count_of(GREATEST, step, begin, place), count)

    def test_step_1_goes_in_the_order_of_the_places(self):
        for many in GREAT:
            self.assertEqual(goes_at(many, 1, 5, many - 5), many - 1)
            self.assertEqual(goes_at(many, 1, 5, many - 4), 0)
            self.assertEqual(count_of(many, 1, 5, 4), many)
            self.assertEqual(last_of(many, 1), many - 1)

    def test_step_2_leaves_whom_the_powers_of_two_tell(self):
        for many in GREAT:
            power = 1 << (many.bit_length() - 1)
            self.assertEqual(last_of(many, 2), 2 * (many - power))

    def test_the_beginning_turns_the_ring(self):
        for many, step, begin in random_rings(3, 60):
            count = (many + 1) // 2
            turned = (goes_at(many, step, 0, count) + begin) % many
            self.assertEqual(goes_at(many, step, begin, count), turned)
            self.assertEqual(last_of(many, step, begin), (last_of(many, step) + begin) % many)


class NumbersTold(unittest.TestCase):
    """Point 2.2."""

    def test_the_numbers_that_are_told_going_round(self):
        for many in range(1, 31):
            for step in (1, 2, 3, 4, 5, 8, 13, 31):
                for place, numbers in enumerate(numbers_told(many, step)):
                    self.assertEqual(numbers[0], place + 1)
                    for number, following in zip(numbers, numbers[1:]):
                        self.assertNotEqual(number % step, 0)
                        self.assertEqual(following, many + number - number // step)
                    self.assertEqual(numbers[-1] % step, 0)
                    count = numbers[-1] // step
                    self.assertEqual(count_of(many, step, 0, place), count, (many, step, place))
                    self.assertEqual(goes_at(many, step, 0, count), place, (many, step, count))

    def test_great_rings(self):
        for many, step, place in random_rings(4, 60):
            number = place + 1
            while number % step:
                number = many + number - number // step
            self.assertEqual(count_of(many, step, 0, place), number // step)
            self.assertEqual(goes_at(many, step, 0, number // step), place)


class Refused(unittest.TestCase, Refusals):
    def test_no_many(self):
        for many in NO_NUMBERS + [0, -1, -GREATEST, GREATEST + 1, GREATEST * 10, 10 ** 3999]:
            self.refused(NoMany, count_of, many, 2, 0, 0)
            self.refused(NoMany, goes_at, many, 2, 0, 1)
            self.refused(NoMany, last_of, many, 2, 0)
            self.refused(NoMany, last_of, many, 2)

    def test_no_step(self):
        for step in NO_NUMBERS + BELOW_OR_ABOVE_STEPS:
            self.refused(NoStep, count_of, 3, step, 0, 0)
            self.refused(NoStep, goes_at, 3, step, 0, 1)
            self.refused(NoStep, last_of, 3, step, 0)
            self.refused(NoStep, last_of, 3, step)

    def test_no_begin(self):
        for many in (1, 2, 40, GREATEST):
            for begin in NO_NUMBERS + [-1, -many, many, many + 1, GREATEST, -GREATEST, 10 ** 3999]:
                self.refused(NoPlace, count_of, many, 2, begin, 0)
                self.refused(NoPlace, goes_at, many, 2, begin, 1)
                self.refused(NoPlace, last_of, many, 2, begin)

    def test_no_place(self):
        for many in (1, 2, 40, GREATEST):
            for place in NO_NUMBERS + [-1, -many, many, many + 1, GREATEST, -GREATEST, 10 ** 3999]:
                self.refused(NoPlace, count_of, many, 2, 0, place)

    def test_no_count(self):
        for many in (1, 2, 40, GREATEST):
            for count in NO_NUMBERS + [0, -1, -many, many + 1, many + 2, GREATEST + 1, -GREATEST, 10 ** 3999]:
                self.refused(NoCount, goes_at, many, 2, 0, count)

    def test_just_within_the_bounds_nothing_is_refused(self):
        for many in (1, GREATEST):
            for step in (1, 100):
                for begin in (0, many - 1):
                    with no_delay():
                        for place in (0, many - 1):
                            self.assertIn(count_of(many, step, begin, place), range(1, many + 1))
                        for count in (1, many):
                            self.assertIn(goes_at(many, step, begin, count), range(many))
                        self.assertIn(last_of(many, step, begin), range(many))

    def test_the_first_refusal_due_comes(self):
        many = (NoMany, [0, -1, GREATEST + 1, True, False, None, "3", [3]])
        step = (NoStep, [0, 101, -1, True, False, None, "2", [2], GREATEST])
        place = (NoPlace, [-1, GREATEST, True, False, None, "1", [1]])
        count = (NoCount, [0, -1, GREATEST, True, False, None, "1", [1]])
        self.first_refused(count_of, (3, 2, 1, 0), [many, step, place, place])
        self.first_refused(goes_at, (3, 2, 1, 1), [many, step, place, count])
        self.first_refused(last_of, (3, 2, 1), [many, step, place])


if __name__ == "__main__":
    unittest.main()
