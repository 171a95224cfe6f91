"""Promise 9: walker."""

import unittest

from helper import ask, change, door, flat, ground, last, walker
from roughways.walkers import Walker

PLACES = ground("10#0a0b0\n10101010")


class Walkers(unittest.TestCase):
    def test_numbers_from_1(self):
        self.assertEqual(ask(PLACES, walker(0), walker(7), walker(3))[1:], [[1], [2], [3]])

    def test_six_walkers_and_a_seventh(self):
        told = ask(ground(flat(12, 10)), *[walker(cell) for cell in range(119, 112, -1)])
        self.assertEqual(told[1:], [[1], [2], [3], [4], [5], [6], [-5]])

    def test_a_wall(self):
        self.assertEqual(last(PLACES, walker(1)), [-6])
        self.assertEqual(last(PLACES, change(0, 0, 0), walker(0)), [-6])
        self.assertEqual(last(PLACES, change(1, 1, 9), walker(1)), [1])

    def test_a_cell_that_is_taken(self):
        self.assertEqual(ask(PLACES, walker(0), walker(0), walker(4), walker(4))[1:], [[1], [-6], [2], [-6]])

    def test_a_cell_that_is_not_always_open(self):
        told = ask(PLACES, door(0, 2, 1, 0), door(1, 2, 0, 0), walker(2), walker(3))
        self.assertEqual(told[3:], [[-6], [-6]])

    def test_a_cell_that_is_always_open(self):
        self.assertEqual(ask(PLACES, walker(2), door(1, 20, 20, 19), walker(3))[1:], [[1], [1], [2]])

    def test_a_change_takes_the_door_away(self):
        self.assertEqual(last(PLACES, door(0, 2, 0, 0), change(2, 1, 0), walker(2)), [1])

    def test_a_refused_walker_is_not_made(self):
        told = ask(PLACES, walker(1), walker(8), walker(120), walker(0), walker(0), walker(2))
        self.assertEqual(told[1:], [[-6], [-3], [-1], [1], [-6], [2]])
        self.assertEqual(last(PLACES, walker(0), walker(0), change(1, 1, 0)), [0])

    def test_a_seventh_comes_ahead_of_a_cell_that_will_not_do(self):
        six = [walker(cell) for cell in (0, 2, 3, 4, 5, 6)]
        self.assertEqual(ask(PLACES, *six, walker(1), walker(0), walker(7), walker(8))[7:], [[-5], [-5], [-5], [-3]])

    def test_a_seventh_is_nowhere(self):
        six = [walker(cell) for cell in (0, 2, 3, 4, 5, 6)]
        self.assertEqual(last(PLACES, *six, walker(7), change(7, 0, 0)), [0])

    def test_it_stays_where_it_was_made(self):
        told = ask(PLACES, walker(2), change(2, 1, 0), door(0, 1, 1, 0), change(6, 0, 0), door(1, 1, 1, 0))
        self.assertEqual(told[2:], [[-5], [-5], [0], [1]])

    def test_it_rests_with_no_time_left(self):
        made = Walker(5)
        self.assertEqual(made.plan, [5])
        self.assertEqual(made.time_left, 0)


if __name__ == "__main__":
    unittest.main()
