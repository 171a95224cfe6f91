"""Promises 1, 8 and 9 where a plan goes over the cell later on."""

import unittest

from helper import ask, at, cell, change, door, field, flat, go, ground, last, pass_on, plan, remove, rest, try_plan
from helper import walker, where

DOORS = ground("10a01010b0")
ROW = ground(flat(5, 1))


class Door(unittest.TestCase):
    def test_a_plan_that_goes_through_it_later(self):
        going = [DOORS, walker(0), go(1, 3)]
        self.assertEqual(ask(*going, door(0, 2, 1, 0), door(1, 2, 1, 0))[3:], [[-5], [1]])

    def test_a_plan_that_ends_there(self):
        self.assertEqual(last(DOORS, walker(0), go(1, 4), door(1, 2, 2, 0)), [-5])
        self.assertEqual(last(DOORS, walker(0), go(1, 4), pass_on(99), door(1, 2, 2, 0)), [-5])

    def test_once_it_has_gone_by_the_door_can_be_set(self):
        told = ask(DOORS, walker(0), go(1, 3), pass_on(1), door(0, 2, 0, 0), pass_on(1), door(0, 2, 0, 0))
        self.assertEqual(told[4:], [[-5], [2], [1]])

    def test_a_plan_given_up(self):
        self.assertEqual(last(DOORS, walker(0), go(1, 3), rest(1), door(0, 2, 0, 0)), [1])
        self.assertEqual(last(DOORS, walker(0), go(1, 3), go(1, 0), door(0, 2, 0, 0)), [1])
        self.assertEqual(last(DOORS, walker(0), go(1, 3), try_plan(1, [0]), door(0, 2, 0, 0)), [1])
        self.assertEqual(last(DOORS, walker(0), go(1, 3), remove(1), door(0, 2, 0, 0)), [1])

    def test_a_refusal_leaves_door_and_plan_as_they_were(self):
        told = ask(DOORS, walker(0), go(1, 3), door(0, 2, 0, 0), cell(1), plan(1))
        self.assertEqual(told[3:], [[-5], [1, 0, 1, 1], [4, 0, 1, 2, 3, 3]])

    def test_a_plan_over_a_cell_that_has_no_door_any_more(self):
        self.assertEqual(last(DOORS, change(1, 1, 0), walker(0), go(1, 3), door(0, 2, 0, 0)), [0])


class Change(unittest.TestCase):
    def test_a_plan_that_goes_over_it_later(self):
        going = [ROW, walker(0), go(1, 3)]
        told = ask(*going, change(0, 1, 0), change(1, 1, 0), change(2, 9, 9), change(3, 0, 0), change(4, 0, 0))
        self.assertEqual(told[3:], [[-5], [-5], [-5], [-5], [0]])

    def test_once_it_has_gone_by_the_cell_can_be_changed(self):
        told = ask(ROW, walker(0), go(1, 3), pass_on(2), change(0, 0, 0), change(1, 0, 0), change(2, 0, 0), where(1))
        self.assertEqual(told[4:], [[0], [0], [-5], [2, 0, 3, 3]])

    def test_a_plan_that_comes_back(self):
        going = [ROW, walker(0), try_plan(1, [0, 1, 0]), pass_on(1)]
        told = ask(*going, change(0, 1, 0), change(1, 1, 0), change(2, 1, 0))
        self.assertEqual(told[4:], [[-5], [-5], [0]])

    def test_a_plan_given_up(self):
        for given_up in (rest(1), go(1, 0), try_plan(1, [0]), remove(1)):
            self.assertEqual(last(ROW, walker(0), go(1, 3), given_up, change(3, 0, 0)), [0])

    def test_a_refusal_leaves_cells_fields_and_plans_as_they_were(self):
        told = ask(ROW, field(4), walker(0), go(1, 3), change(2, 0, 5), cell(2), at(0, 0), plan(1))
        self.assertEqual(told[4:], [[-5], [1, 0, 0, 1], [5, 2], [4, 0, 1, 2, 3, 3]])


class Walker(unittest.TestCase):
    def test_a_cell_that_another_comes_by_later(self):
        going = [ROW, walker(0), go(1, 3)]
        told = ask(*going, *[walker(place) for place in range(5)])[3:]
        self.assertEqual(told, [[-6], [-6], [-6], [-6], [2]])

    def test_once_it_has_gone_by_one_can_be_made_there(self):
        told = ask(ROW, walker(0), go(1, 3), pass_on(2), walker(2), walker(1), walker(0), walker(3), walker(4))
        self.assertEqual(told[4:], [[-6], [2], [3], [-6], [4]])

    def test_a_plan_that_comes_back(self):
        told = ask(ROW, walker(0), try_plan(1, [0, 1, 0]), pass_on(1), walker(0), walker(2))
        self.assertEqual(told[4:], [[-6], [2]])

    def test_a_plan_given_up(self):
        for given_up in (rest(1), go(1, 0), try_plan(1, [0]), remove(1)):
            self.assertEqual(last(ROW, walker(0), go(1, 3), given_up, walker(3)), [2])

    def test_one_made_later_rests_from_then_on(self):
        self.assertEqual(last(ROW, pass_on(6), walker(2), where(1)), [2, 0, 2, 6])

    def test_a_door_that_is_open_now_but_not_always(self):
        calls = [ground("a0"), door(0, 2, 1, 0)]
        self.assertEqual(ask(*calls, walker(0), pass_on(1), walker(0), door(0, 2, 2, 1), walker(0))[2:],
                         [[-6], [1], [-6], [1], [1]])


if __name__ == "__main__":
    unittest.main()
