"""Points 0.1 to 0.3: all the ways in which the program tells who goes tell the same."""

import ast
import pathlib
import unittest
from random import Random

import countout
from countout.laid import row_out
from countout.leaps import count_of, goes_at, last_of
from countout.orders import counts_of, order_of
from countout.rings import Ring
from countout.wishes import begin_for, least_step
from tests.helping import go_round, named


class TheSameRow(unittest.TestCase):
    def tells_the_same_row(self, many, step, begin):
        told = (many, step, begin)
        places = go_round(*told)
        hands = named(many)
        row = [hands[place] for place in places]
        self.assertEqual(row_out(hands, step, begin), row, told)
        self.assertEqual(order_of(*told), places, told)
        self.assertEqual([goes_at(*told, count) for count in range(1, many + 1)], places, told)
        counts = counts_of(*told)
        self.assertEqual([places[count - 1] for count in counts], list(range(many)), told)
        self.assertEqual([count_of(*told, place) for place in range(many)], counts, told)
        self.assertEqual(last_of(*told), places[-1], told)
        self.assertEqual(begin_for(many, step, places[-1]), begin, told)
        ring = Ring(hands, step, begin)
        self.assertEqual([ring.due(hand) for hand in hands], counts, told)
        self.assertEqual(ring.last(), row[-1], told)
        self.assertEqual([ring.count() for _ in hands], row, told)
        self.assertEqual(ring.gone(), row, told)
        self.assertEqual(Ring(hands, step, begin).counts(many), row, told)

    def test_small_rings_every_beginning(self):
        for many in range(1, 13):
            for step in (1, 2, 3, 4, 7, 12, 13, 100):
                for begin in range(many):
                    self.tells_the_same_row(many, step, begin)

    def test_some_greater_rings(self):
        chance = Random(59)
        for many in (20, 33, 41, 60, 100, 199, 200):
            for step in (1, 2, 3, 41, 100):
                self.tells_the_same_row(many, step, chance.randrange(many))

    def test_the_least_step_and_no_lesser_one_leaves_the_wished_one(self):
        for many in list(range(1, 13)) + [41, 60]:
            lasts = [None] + [last_of(many, step) for step in range(1, 101)]
            for place in range(many):
                least = least_step(many, place)
                self.assertEqual([step for step in range(1, least or 101) if lasts[step] == place], [])
                if least is not None:
                    self.assertEqual(lasts[least], place)
                    self.assertEqual(order_of(many, least)[-1], place)
                    self.assertEqual(begin_for(many, least, place), 0)
                    self.assertEqual(Ring(named(many), least).last(), f"hand {place}")
                    self.assertEqual(row_out(named(many), least)[-1], f"hand {place}")

    def test_steps_over_a_hundred(self):
        for many in (1, 2, 17, 60, 200):
            for step in (101, 406, 10 ** 60):
                for begin in (0, many - 1):
                    row = row_out(named(many), step, begin)
                    self.assertEqual([f"hand {place}" for place in order_of(many, step, begin)], row)
                    self.assertEqual([row[count - 1] for count in counts_of(many, step, begin)], named(many))
                    ring = Ring(named(many), step, begin)
                    self.assertEqual((ring.last(), ring.counts(many)), (row[-1], row))


class NothingElse(unittest.TestCase):
    def test_the_program_imports_nothing_but_itself(self):
        for file in pathlib.Path(countout.__file__).parent.glob("*.py"):
            for found in ast.walk(ast.parse(file.read_text())):
                self.assertNotIsInstance(found, ast.Import, file.name)
                if isinstance(found, ast.ImportFrom):
                    self.assertTrue(found.module.startswith("countout."), (file.name, found.module))


if __name__ == "__main__":
    unittest.main()
