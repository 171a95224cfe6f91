"""Promises 6 to 8: field, at and change."""

import unittest

from helper import ask, at, change, field, flat, ground, last, walker, way

ROW = ground("10203040")


def whole(which, size):
    return [at(which, cell) for cell in range(size)]


class Fields(unittest.TestCase):
    def test_three_fields_and_a_fourth(self):
        told = ask(ROW, field(0), field(0), field(3), field(1))
        self.assertEqual(told[1:], [[0], [1], [2], [-5]])

    def test_a_fourth_leaves_the_three_as_they_were(self):
        told = ask(ROW, field(0), field(1), field(3), field(2), at(0, 0), at(1, 1), at(2, 3))
        self.assertEqual(told[5:], [[1, 0], [1, 0], [1, 0]])

    def test_a_wall_as_a_goal(self):
        told = ask(ground("10#010"), field(1), *whole(0, 3))
        self.assertEqual(told[1:], [[0], [0, 0], [0, 0], [0, 0]])


class At(unittest.TestCase):
    def test_cost_and_next_each_and_one(self):
        told = ask(ROW, field(3), *whole(0, 4))
        self.assertEqual(told[2:], [[10, 2], [8, 3], [5, 4], [1, 0]])

    def test_the_way_goes_to_the_goal_not_from_it(self):
        told = ask(ROW, field(0), *whole(0, 4))
        self.assertEqual(told[2:], [[1, 0], [2, 1], [4, 2], [7, 3]])

    def test_heights(self):
        self.assertEqual(ask(ground("101216"), field(1), *whole(0, 3))[2:], [[4, 2], [1, 0], [0, 0]])
        self.assertEqual(ask(ground("101214"), field(0), *whole(0, 3))[2:], [[1, 0], [2, 1], [3, 2]])

    def test_next_is_the_first_neighbour_in_the_told_order(self):
        around = ground(flat(3, 3))
        self.assertEqual(last(around, field(0), at(0, 8)), [5, 6])
        self.assertEqual(last(around, field(2), at(0, 6)), [5, 4])
        self.assertEqual(last(around, field(6), at(0, 2)), [5, 6])
        self.assertEqual(last(around, field(8), at(0, 0)), [5, 2])
        self.assertEqual(last(around, field(6), at(0, 1)), [4, 5])

    def test_next_is_passed_over_where_it_costs_more(self):
        self.assertEqual(last(ground("9010\n1010"), field(0), at(0, 3)), [11, 2])
        self.assertEqual(last(ground("1090\n1010"), field(0), at(0, 3)), [3, 3])

    def test_a_wall_and_a_cell_without_a_way(self):
        self.assertEqual(ask(ground("10#010"), field(0), *whole(0, 3))[2:], [[1, 0], [0, 0], [0, 0]])

    def test_each_field_has_its_own_goal(self):
        self.assertEqual(ask(ROW, field(0), field(3), at(0, 1), at(1, 1))[3:], [[2, 1], [8, 3]])

    def test_no_such_field(self):
        told = ask(ROW, at(0, 0), field(0), at(1, 0), at(2, 0), at(0, 0))
        self.assertEqual(told[1:], [[-4], [0], [-4], [-4], [1, 0]])

    def test_a_cell_that_is_not_on_the_ground_comes_first(self):
        self.assertEqual(last(ROW, at(0, 4)), [-3])
        self.assertEqual(last(ROW, at(2, 119)), [-3])


class Change(unittest.TestCase):
    def test_without_fields(self):
        self.assertEqual(last(ROW, change(1, 5, 1)), [0])

    def test_the_cell_has_this_cost_and_height(self):
        self.assertEqual(last(ROW, change(1, 5, 2), way(0, 2)), [1, 10, 3, 0, 1, 2])
        self.assertEqual(last(ROW, change(1, 5, 3), way(0, 2)), [0])
        self.assertEqual(last(ROW, change(1, 0, 0), way(0, 2)), [0])
        self.assertEqual(last(ground("10#910"), change(1, 1, 0), way(0, 2)), [1, 2, 3, 0, 1, 2])
        self.assertEqual(last(ground("10#910"), change(1, 9, 9), way(0, 2)), [0])

    def test_only_this_cell(self):
        self.assertEqual(last(ground(flat(3, 3)), change(4, 9, 0), way(3, 5)), [1, 4, 5, 3, 0, 1, 2, 5])

    def test_the_cells_behind_it_are_forgotten(self):
        told = ask(ROW, field(0), change(1, 5, 0), *whole(0, 4))
        self.assertEqual(told[2:], [[1, 3, 3], [1, 0], [2, 1], [7, 2], [10, 3]])

    def test_a_change_at_the_rim_forgets_one(self):
        told = ask(ROW, field(0), change(3, 9, 0), *whole(0, 4))
        self.assertEqual(told[2:], [[1, 1, 1], [1, 0], [2, 1], [4, 2], [7, 3]])

    def test_a_wall_cuts_cells_off(self):
        told = ask(ROW, field(0), change(1, 0, 0), *whole(0, 4))
        self.assertEqual(told[2:], [[1, 3, 0], [1, 0], [0, 0], [0, 0], [0, 0]])

    def test_too_steep_cuts_cells_off(self):
        told = ask(ROW, field(0), change(1, 1, 3), *whole(0, 4))
        self.assertEqual(told[2:], [[1, 3, 0], [1, 0], [0, 0], [0, 0], [0, 0]])

    def test_a_wall_that_opens(self):
        told = ask(ground("10#01010"), field(0), change(1, 2, 0), *whole(0, 4))
        self.assertEqual(told[2:], [[1, 0, 3], [1, 0], [2, 1], [4, 2], [5, 3]])

    def test_a_cell_without_a_cost_is_not_counted(self):
        told = ask(ground("10#01010"), field(0), change(2, 0, 0), change(2, 5, 5), change(1, 0, 9))
        self.assertEqual(told[2:], [[1, 0, 0], [1, 0, 0], [1, 0, 0]])

    def test_following_takes_only_next(self):
        # From cell 3 both ways cost the same; next is the cell above it.
        square = ground("1010\n1010")
        self.assertEqual(last(square, field(0), change(1, 9, 0)), [1, 2, 1])
        self.assertEqual(last(square, field(0), change(2, 9, 0)), [1, 1, 1])

    def test_following_is_that_of_before_the_change(self):
        told = ask(ground("1020\n1010"), field(0), change(2, 9, 0), *whole(0, 4))
        self.assertEqual(told[2:], [[1, 2, 1], [1, 0], [2, 1], [2, 1], [4, 2]])

    def test_rounds_take_the_costs_before_the_round(self):
        # One cell more has a cost after each round, whichever way the numbers of the cells run.
        self.assertEqual(last(ground(flat(12, 1)), field(11), change(11, 2, 0)), [1, 12, 11])
        self.assertEqual(last(ground(flat(12, 1)), field(0), change(0, 2, 0)), [1, 12, 11])

    def test_a_later_round_may_make_a_cost_less(self):
        # Cell 0 has 10 by way of cell 1 after two rounds, and 4 by way of cell 3 after four.
        told = ask(ground("109010\n101010"), field(2), change(2, 1, 0), at(0, 0))
        self.assertEqual(told[2:], [[1, 6, 4], [5, 4]])

    def test_a_cost_that_gets_less_elsewhere(self):
        told = ask(ground("109010\n101010"), field(2), change(1, 1, 0), *whole(0, 6))
        self.assertEqual(told[2:], [[1, 1, 2], [3, 2], [2, 3], [1, 0], [4, 1], [3, 2], [2, 3]])

    def test_a_goal_that_becomes_a_wall(self):
        told = ask(ROW, field(2), change(2, 0, 0), *whole(0, 4))
        self.assertEqual(told[2:], [[1, 4, 0], [0, 0], [0, 0], [0, 0], [0, 0]])

    def test_a_goal_that_is_a_wall_no_more(self):
        told = ask(ROW, field(2), change(2, 0, 0), change(1, 1, 0), change(2, 3, 0), *whole(0, 4))
        self.assertEqual(told[3:], [[1, 0, 0], [1, 0, 2], [5, 2], [4, 3], [1, 0], [4, 3]])

    def test_a_goal_that_gets_another_cost(self):
        told = ask(ROW, field(2), change(2, 1, 0), *whole(0, 4))
        self.assertEqual(told[2:], [[1, 4, 2], [4, 2], [2, 3], [1, 0], [2, 3]])

    def test_a_change_that_changes_nothing_mends_all_the_same(self):
        before = ask(ROW, field(0), *whole(0, 4))
        told = ask(ROW, field(0), change(1, 2, 0), *whole(0, 4))
        self.assertEqual(told[2], [1, 3, 3])
        self.assertEqual(told[3:], before[2:])

    def test_all_fields_are_mended_in_order(self):
        told = ask(ROW, field(0), field(3), field(1), change(1, 0, 0), at(0, 1), at(1, 2), at(2, 2))
        self.assertEqual(told[4:], [[3, 3, 0, 2, 0, 4, 0], [0, 0], [5, 4], [0, 0]])

    def test_the_next_change_goes_on_from_the_mended_field(self):
        told = ask(ground(flat(3, 2)), field(0), change(1, 0, 0), change(4, 0, 0), change(1, 1, 0), at(0, 5))
        self.assertEqual(told[2:], [[1, 4, 3], [1, 3, 0], [1, 0, 3], [4, 3]])

    def test_a_walker_at_the_cell(self):
        told = ask(ROW, walker(1), field(0), change(1, 0, 0), at(0, 3), change(0, 1, 0))
        self.assertEqual(told[3:], [[-5], [7, 3], [1, 4, 3]])
        self.assertEqual(last(ROW, walker(1), change(1, 2, 0)), [-5])

    def test_a_refusal_leaves_cells_and_fields_as_they_were(self):
        before = ask(ROW, walker(1), field(3), *whole(0, 4), way(0, 3))[3:]
        for refused in (change(1, 9, 9), change(0, 10, 0), change(0, 1, 10), change(4, 1, 0), change(120, 0, 0)):
            self.assertEqual(ask(ROW, walker(1), field(3), refused, *whole(0, 4), way(0, 3))[4:], before)


if __name__ == "__main__":
    unittest.main()
