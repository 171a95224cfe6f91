"""who (promise 17), cell and cost."""

import unittest

from helper import ask, cell, change, cost, door, flat, go, ground, last, pass_on, plan, remove, rest, try_plan, walker
from helper import way, where, who

ROW = ground(flat(4, 1))


class Who(unittest.TestCase):
    def test_a_walker_that_rests(self):
        told = ask(ROW, walker(2), walker(0), who(2, 0), who(0, 0), who(1, 0), who(2, 77), who(0, 2000000))
        self.assertEqual(told[3:], [[1], [2], [0], [1], [2]])

    def test_in_a_plan_and_behind_its_end(self):
        going = [ROW, walker(0), go(1, 3)]
        for tick in range(6):
            told = ask(*going, *[who(place, tick) for place in range(4)])[3:]
            self.assertEqual(told, [[int(place == min(tick, 3))] for place in range(4)])
        self.assertEqual(last(*going, who(3, 2000000)), [1])
        self.assertEqual(last(*going, who(0, 2000000)), [0])

    def test_at_this_very_tick_and_at_a_tick_that_is_past(self):
        calls = [who(2, 2), who(1, 1), who(2, 1), who(0, 0), who(3, 3), who(3, 2)]
        told = ask(ROW, walker(0), go(1, 3), pass_on(2), *calls)
        self.assertEqual(told[4:], [[1], [-5], [-5], [-5], [1], [0]])

    def test_a_tick_that_is_past_with_no_walker(self):
        self.assertEqual(ask(ROW, pass_on(1), who(0, 0), who(0, 1))[2:], [[-5], [0]])

    def test_a_wall(self):
        self.assertEqual(last(ground("10#0"), who(1, 0)), [0])

    def test_one_comes_as_another_leaves(self):
        calls = [ROW, walker(0), walker(1), go(2, 3), go(1, 2)]
        told = ask(*calls, who(1, 0), who(1, 1), who(1, 2), who(2, 2), who(2, 1))
        self.assertEqual(told[5:], [[2], [1], [0], [1], [2]])

    def test_a_walker_that_was_removed(self):
        told = ask(ROW, walker(0), walker(3), go(1, 2), remove(1), who(0, 0), who(2, 2), who(3, 0))
        self.assertEqual(told[5:], [[0], [0], [2]])

    def test_refusals(self):
        self.assertEqual(ask(who(120, 0), who(0, -1), who(0, 2000001), who(0, 0)), [[-1], [-1], [-1], [-2]])
        told = ask(ROW, pass_on(5), who(4, 0), who(4, -1), who(120, 0), who(3, 0), who(3, 2000000), who(3, 2000001))
        self.assertEqual(told[2:], [[-3], [-1], [-1], [-5], [0], [-1]])


class Cell(unittest.TestCase):
    def test_cost_and_height(self):
        told = ask(ground("1095#3\n70#910"), *[cell(place) for place in range(6)])
        self.assertEqual(told[1:], [[1, 0, 0, 1], [9, 5, 0, 1], [0, 3, 0, 1], [7, 0, 0, 1], [0, 9, 0, 1], [1, 0, 0, 1]])

    def test_each_door(self):
        told = ask(ground("a0b1c2d3e4f5"), *[cell(place) for place in range(6)])
        self.assertEqual(told[1:], [[1, which, which + 1, 1] for which in range(6)])

    def test_open_and_shut(self):
        calls = [ground("a0b0"), door(1, 5, 2, 4), cell(0), cell(1)] + [pass_on(1), cell(1)] * 6
        told = ask(*calls)
        self.assertEqual(told[2], [1, 0, 1, 1])
        self.assertEqual([answer[3] for answer in told[3::2]], [0, 1, 1, 0, 0, 0, 1])
        self.assertEqual({tuple(answer[:3]) for answer in told[3::2]}, {(1, 0, 2)})

    def test_never_and_always_open(self):
        self.assertEqual(last(ground("f0"), door(5, 20, 0, 7), cell(0)), [1, 0, 6, 0])
        self.assertEqual(last(ground("f0"), door(5, 20, 20, 7), cell(0)), [1, 0, 6, 1])

    def test_a_changed_cell(self):
        self.assertEqual(last(ground("a0"), door(0, 2, 0, 0), change(0, 4, 6), cell(0)), [4, 6, 0, 1])
        self.assertEqual(last(ground("a0"), door(0, 2, 0, 0), change(0, 0, 9), cell(0)), [0, 9, 0, 1])
        self.assertEqual(last(ground("#4"), change(0, 1, 0), cell(0)), [1, 0, 0, 1])

    def test_walkers_do_not_matter(self):
        self.assertEqual(last(ROW, walker(1), cell(1)), [1, 0, 0, 1])

    def test_refusals(self):
        self.assertEqual(ask(cell(-1), cell(120), cell(119), ROW, cell(4), cell(3)),
                         [[-1], [-1], [-2], [4, 1], [-3], [1, 0, 0, 1]])


class Cost(unittest.TestCase):
    def test_the_sum_of_its_steps(self):
        rough = ground("10203040\n50607080")
        self.assertEqual(last(rough, cost([0, 1, 2, 3])), [1, 9])
        self.assertEqual(last(rough, cost([3, 2, 1, 0])), [1, 6])
        self.assertEqual(last(rough, cost([0, 4, 5, 1, 0])), [1, 5 + 6 + 2 + 1])

    def test_heights(self):
        self.assertEqual(last(ground("101233"), cost([0, 1, 2])), [1, 3 + 4])
        self.assertEqual(last(ground("101233"), cost([2, 1, 0])), [1, 2])
        self.assertEqual(last(ground("1013"), cost([0, 1])), [0])
        self.assertEqual(last(ground("1310"), cost([0, 1])), [0])

    def test_a_cell_alone(self):
        self.assertEqual(last(ground("90"), cost([0])), [1, 0])
        self.assertEqual(last(ground("#0"), cost([0])), [0])

    def test_a_wall_on_the_way(self):
        walled = ground("10#010")
        for cells in ([0, 1], [1, 0], [0, 1, 2], [1, 2]):
            self.assertEqual(last(walled, cost(cells)), [0])

    def test_a_row_that_stays_at_a_cell(self):
        self.assertEqual(last(ROW, cost([0, 0])), [0])
        self.assertEqual(last(ROW, cost([0, 1, 1, 2])), [0])

    def test_cells_that_are_no_neighbours(self):
        self.assertEqual(last(ROW, cost([0, 2])), [0])
        self.assertEqual(last(ROW, cost([0, 1, 3])), [0])
        self.assertEqual(last(ground(flat(3, 2)), cost([2, 3])), [0])
        self.assertEqual(last(ground(flat(3, 2)), cost([0, 4])), [0])

    def test_to_and_fro_two_hundred_cells_long(self):
        self.assertEqual(last(ground("2070"), cost([0, 1] * 100)), [1, 100 * 7 + 99 * 2])

    def test_doors_and_walkers_do_not_matter(self):
        self.assertEqual(last(ground("10a010"), door(0, 2, 0, 0), walker(2), cost([0, 1, 2])), [1, 2])

    def test_the_ground_as_changed(self):
        self.assertEqual(last(ROW, change(1, 5, 2), cost([0, 1, 2])), [1, 8])
        self.assertEqual(last(ROW, change(1, 0, 0), cost([0, 1, 2])), [0])

    def test_a_way_told_costs_what_is_told_of_it(self):
        hills = ground("101214\n#01612\n103030")
        for start in range(9):
            for end in range(9):
                told = last(hills, way(start, end))
                if told != [0]:
                    self.assertEqual(last(hills, cost(told[3:])), [1, told[1]])

    def test_a_number_out_of_range_at_any_place(self):
        for place in range(200):
            for number, refusal in ((-1, -1), (120, -1), (-2 ** 63, -1), (2 ** 63 - 1, -1), (4, -3), (119, -3)):
                cells = [0] * 200
                cells[place] = number
                self.assertEqual(last(ROW, cost(cells)), [refusal])

    def test_which_refusal_comes_first(self):
        self.assertEqual(ask(cost([120]), cost([119])), [[-1], [-2]])
        self.assertEqual(last(ROW, cost([4, 120])), [-1])
        self.assertEqual(last(ROW, cost([0, 0, 4])), [-3])

    def test_a_list_that_is_too_long_or_empty(self):
        self.assertEqual(last(ROW, cost([0, 1] * 100 + [0])), [-1])
        self.assertEqual(last(ROW, cost([])), [-1])


class NothingChanges(unittest.TestCase):
    def test_to_look_changes_nothing(self):
        going = [ground("10a03010"), walker(0), go(1, 3), pass_on(1)]
        after = [plan(1), where(1), try_plan(1, [1, 2, 2, 2, 3]), rest(1), plan(1)]
        expected = ask(*going, *after)[len(going):]
        for look in (who(1, 1), who(1, 0), who(0, 5), cell(1), cell(4), cost([0, 1]), cost([0, 0]), cost([9])):
            self.assertEqual(ask(*going, look, *after)[len(going) + 1:], expected)


if __name__ == "__main__":
    unittest.main()
