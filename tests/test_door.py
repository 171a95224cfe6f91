"""Promise 1: door. What a door does is seen in where a walker may be made."""

import unittest

from helper import ask, change, door, field, flat, ground, last, walker, way
from roughways.walkers import Door

DOORS = ground("a0b0a0c0\nd0e0f010")


class Answer(unittest.TestCase):
    def test_how_many_cells_have_it(self):
        told = ask(DOORS, *[door(which, 2, 1, 0) for which in range(6)])
        self.assertEqual(told[1:], [[2], [1], [1], [1], [1], [1]])

    def test_a_ground_full_of_one_door(self):
        self.assertEqual(last(ground(flat(12, 10, "c9")), door(2, 20, 20, 19)), [120])

    def test_a_changed_cell_has_no_door_any_more(self):
        self.assertEqual(last(DOORS, change(0, 1, 0), door(0, 1, 1, 0)), [1])
        self.assertEqual(last(DOORS, change(0, 0, 0), change(2, 1, 0), door(0, 1, 1, 0)), [0])

    def test_a_door_does_not_bar_a_way(self):
        self.assertEqual(last(ground("10a010"), door(0, 5, 0, 0), way(0, 2)), [1, 2, 3, 0, 1, 2])


class OpenTicks(unittest.TestCase):
    def test_at_first_a_door_is_always_open(self):
        for cell in range(7):
            self.assertEqual(last(DOORS, walker(cell)), [1])

    def test_a_door_that_is_open_as_long_as_its_period_is_always_open(self):
        for period in range(1, 21):
            self.assertEqual(last(DOORS, door(0, period, period, period - 1), walker(2)), [1])

    def test_a_door_that_is_never_open(self):
        for period in (1, 2, 20):
            self.assertEqual(last(DOORS, door(0, period, 0, 0), walker(0)), [-6])

    def test_a_door_that_is_open_now_but_not_always(self):
        self.assertEqual(last(DOORS, door(0, 20, 19, 0), walker(0)), [-6])
        self.assertEqual(last(DOORS, door(0, 2, 1, 0), walker(0)), [-6])

    def test_only_the_door_named_is_set(self):
        told = ask(DOORS, door(0, 2, 0, 0), walker(0), walker(1), walker(2), walker(3))
        self.assertEqual(told[2:], [[-6], [1], [-6], [2]])

    def test_a_door_can_be_set_again(self):
        self.assertEqual(ask(DOORS, door(0, 2, 0, 0), door(0, 3, 3, 0), walker(0))[1:], [[2], [2], [1]])

    def test_open_by_the_remainder_of_tick_and_shift(self):
        times = Door(5, 2, 4)
        self.assertEqual([times.is_open_at(tick) for tick in range(7)], [False, True, True, False, False, False, True])
        self.assertEqual([Door(3, 0, 1).is_open_at(tick) for tick in range(4)], [False] * 4)
        self.assertEqual([Door(3, 3, 1).is_open_at(tick) for tick in range(4)], [True] * 4)
        self.assertEqual([Door(2, 1, 19).is_open_at(tick) for tick in range(4)], [False, True, False, True])


class Refusals(unittest.TestCase):
    def test_a_walker_at_a_cell_that_has_it(self):
        told = ask(DOORS, walker(2), door(0, 1, 1, 0), door(1, 2, 1, 0), walker(0), walker(1))
        self.assertEqual(told[1:], [[1], [-5], [1], [2], [-6]])

    def test_a_walker_elsewhere_does_not_matter(self):
        self.assertEqual(last(DOORS, walker(7), door(0, 2, 1, 0)), [2])

    def test_a_refusal_leaves_the_door_as_it_was(self):
        for refused in (door(0, 2, 0, 0), door(0, 21, 0, 0), door(0, 2, 3, 0), door(0, 2, 0, 20)):
            self.assertEqual(ask(DOORS, walker(2), refused, walker(0))[3], [2])

    def test_a_door_does_not_touch_fields(self):
        self.assertEqual(last(DOORS, field(0), door(0, 2, 0, 0), change(7, 1, 0)), [1, 1, 1])


if __name__ == "__main__":
    unittest.main()
