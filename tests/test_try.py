"""Promise 16: try, its seven reasons, and which of two comes first."""

import unittest

from helper import ask, change, door, flat, go, ground, last, pass_on, plan, remove, try_plan, walker, where

ROW = ground(flat(5, 1))
SQUARE = ground(flat(2, 2))
NINE = ground(flat(3, 3))
ROUGH = ground("103010")


class Tried(unittest.TestCase):
    def assert_wrong(self, calls, cells, place, why, w=1):
        """It is answered, and nothing has changed."""
        before = ask(*calls, plan(w), where(w))[len(calls):]
        told = ask(*calls, try_plan(w, cells), plan(w), where(w))[len(calls):]
        self.assertEqual(told[0], [1, place, why])
        self.assertEqual(told[1:], before)

    def assert_right(self, calls, cells, w=1):
        """It is the walker's plan then."""
        told = ask(*calls, try_plan(w, cells), plan(w))[len(calls):]
        self.assertEqual(told, [[0], [len(cells)] + cells + cells[-1:]])


class RightOnes(Tried):
    def test_to_stay(self):
        self.assert_right([ROW, walker(2)], [2])
        self.assert_right([ROW, walker(2)], [2, 2, 2])

    def test_to_walk(self):
        self.assert_right([ROW, walker(2)], [2, 3, 4, 3, 3, 2, 1, 0])
        self.assert_right([ROUGH, walker(0)], [0, 1, 1, 1, 2])
        self.assert_right([ROUGH, walker(0)], [0, 0, 1, 1, 1, 1, 0])
        self.assert_right([ROUGH, walker(0)], [0, 1])

    def test_the_shortest_and_the_longest_list(self):
        self.assert_right([ROW, walker(4)], [4])
        self.assert_right([ROW, walker(4)], [4] * 101)
        self.assert_right([ROW, walker(4)], [4, 3] * 50 + [4])

    def test_in_the_place_of_a_plan(self):
        self.assert_right([ROW, walker(0), go(1, 4), pass_on(2)], [2, 1])

    def test_where_says_when_it_rests(self):
        self.assertEqual(last(ROW, walker(2), pass_on(4), try_plan(1, [2, 3, 4, 3]), where(1)), [2, 0, 3, 7])
        self.assertEqual(last(ROW, walker(2), pass_on(4), try_plan(1, [2, 2, 2]), where(1)), [2, 0, 2, 6])

    def test_time_left_stays(self):
        calls = [ROUGH, walker(0), go(1, 2), pass_on(1)]
        self.assert_right(calls, [1, 1, 1, 0])
        self.assertEqual(last(*calls, try_plan(1, [1, 1, 1, 0]), where(1)), [1, 2, 0, 4])

    def test_through_a_door_while_it_is_open(self):
        self.assert_right([ground("10a010"), door(0, 4, 2, 3), walker(0)], [0, 1, 1, 2])

    def test_behind_another_and_as_it_leaves(self):
        self.assert_right([ROW, walker(0), walker(1), go(2, 4)], [0, 1, 2, 3])

    def test_a_ring_may_turn(self):
        calls = [SQUARE, walker(0), walker(1), walker(3)]
        calls += [try_plan(1, [0, 2]), try_plan(2, [1, 0]), try_plan(3, [3, 1])]
        self.assertEqual(ask(*calls)[4:], [[0], [0], [0]])

    def test_to_where_another_was(self):
        self.assert_right([ROW, walker(0), walker(1), remove(2)], [0, 1])

    def test_its_own_old_plan_is_no_hindrance(self):
        self.assert_right([ROW, walker(0), go(1, 4)], [0, 1, 0])


class Reasons(Tried):
    def test_1_the_first_cell_is_not_where_it_is(self):
        self.assert_wrong([ROW, walker(2)], [1], 0, 1)
        self.assert_wrong([ROW, walker(2)], [3, 2, 2], 0, 1)
        self.assert_wrong([ROW, walker(0), go(1, 4), pass_on(1)], [0, 1], 0, 1)

    def test_2_there_is_no_such_step(self):
        self.assert_wrong([ROW, walker(0)], [0, 2], 1, 2)
        self.assert_wrong([ROW, walker(0)], [0, 1, 2, 0], 3, 2)
        self.assert_wrong([SQUARE, walker(0)], [0, 3], 1, 2)
        self.assert_wrong([SQUARE, walker(1)], [1, 2], 1, 2)
        self.assert_wrong([ground("10#010"), walker(0)], [0, 1, 2], 1, 2)
        self.assert_wrong([ground("1013"), walker(0)], [0, 1], 1, 2)
        self.assert_wrong([ground("1310"), walker(0)], [0, 0, 1], 2, 2)

    def test_3_it_is_too_soon(self):
        self.assert_wrong([ROUGH, walker(0)], [0, 1, 2], 2, 3)
        self.assert_wrong([ROUGH, walker(0)], [0, 1, 1, 2], 3, 3)
        self.assert_wrong([ground("101210"), walker(0)], [0, 1, 1, 2], 3, 3)
        self.assert_right([ground("101210"), walker(0)], [0, 1, 1, 1, 2])

    def test_3_with_the_time_that_is_left_now(self):
        self.assert_wrong([ROUGH, walker(0), go(1, 2), pass_on(1)], [1, 2], 1, 3)
        self.assert_wrong([ROUGH, walker(0), go(1, 2), pass_on(2)], [1, 0], 1, 3)
        self.assert_right([ROUGH, walker(0), go(1, 2), pass_on(2)], [1, 1, 0])
        self.assert_right([ROUGH, walker(0), go(1, 2), pass_on(3)], [1, 0])

    def test_4_it_is_not_open_then(self):
        calls = [ground("10a010"), door(0, 4, 2, 3), walker(0)]
        self.assert_wrong(calls, [0, 1, 1, 1, 2], 3, 4)
        self.assert_wrong(calls, [0, 0, 0, 1, 2], 3, 4)
        self.assert_wrong(calls + [pass_on(1)], [0, 1, 1, 2], 2, 4)
        self.assert_right(calls + [pass_on(1)], [0, 1, 2])

    def test_5_another_walker_is_there(self):
        self.assert_wrong([ROW, walker(0), walker(2)], [0, 1, 2], 2, 5)
        self.assert_wrong([ROW, walker(0), walker(4), go(2, 1)], [0, 0, 1, 1, 0], 3, 5)
        self.assert_wrong([ROW, walker(0), walker(4), go(2, 1)], [0, 1, 2, 2, 1], 2, 5)

    def test_6_another_one_goes_the_other_way(self):
        calls = [SQUARE, walker(0), walker(1), try_plan(1, [0, 2]), try_plan(2, [1, 0])]
        self.assert_wrong(calls, [0, 1], 1, 6)
        self.assert_wrong(calls, [0, 1, 3], 1, 6)
        self.assert_wrong([NINE, walker(0), walker(8), go(2, 1)], [0, 1, 1, 2, 5], 3, 6)

    def test_7_it_may_not_rest_at_a_door(self):
        calls = [ground("10a010"), door(0, 4, 3, 3), walker(0)]
        self.assert_wrong(calls, [0, 1], 1, 7)
        self.assert_wrong(calls, [0, 1, 1], 2, 7)
        self.assert_right([ground("10a010"), door(0, 4, 4, 3), walker(0)], [0, 1])

    def test_7_it_may_not_rest_where_another_comes_later(self):
        calls = [NINE, walker(0), walker(2), try_plan(2, [2, 2, 2, 1, 4])]
        self.assert_wrong(calls, [0, 1], 1, 7)
        self.assert_wrong(calls, [0, 1, 1], 2, 7)
        self.assert_wrong(calls, [0, 1, 1, 1], 3, 5)
        self.assert_wrong(calls, [0, 3, 4], 2, 7)
        self.assert_right(calls, [0, 0, 0, 0, 1])

    def test_7_it_may_not_stay_where_it_is(self):
        calls = [ROW, walker(1), walker(0), go(1, 4), go(2, 2)]
        self.assert_wrong(calls, [1], 0, 7)


class Order(Tried):
    def test_1_comes_ahead_of_all_others(self):
        self.assert_wrong([ROW, walker(0), walker(2)], [2, 4], 0, 1)
        self.assert_wrong([ground("10#0"), walker(0)], [1], 0, 1)

    def test_the_earlier_place_comes_first(self):
        calls = [ground("10a01010"), door(0, 4, 1, 3), walker(0), walker(3)]
        self.assert_wrong(calls, [0, 1, 1, 3], 2, 4)
        self.assert_wrong(calls, [0, 3, 1, 1], 1, 2)
        self.assert_wrong(calls, [0, 1, 2, 3, 0], 3, 5)

    def test_the_cell_comes_ahead_of_the_step_from_it(self):
        # At place 2 the door is shut, and no step leads from there to cell 0 of the row below.
        self.assert_wrong([ground("10a0\n1010"), door(0, 4, 1, 3), walker(0)], [0, 1, 1, 2], 2, 4)
        self.assert_wrong([ROW, walker(0), walker(1)], [0, 1, 4], 1, 5)

    def test_no_step_comes_ahead_of_too_soon(self):
        self.assert_wrong([ground("10301010"), walker(0)], [0, 1, 3], 2, 2)

    def test_no_step_comes_ahead_of_the_cell_it_leads_to(self):
        calls = [ground("1010a0"), door(0, 2, 0, 0), walker(0), walker(1)]
        self.assert_wrong(calls, [0, 2], 1, 2)
        self.assert_wrong([ROW, walker(0), walker(2)], [0, 2], 1, 2)

    def test_too_soon_comes_ahead_of_the_other_way(self):
        # The other one goes from 2 to 1 just as this one would go from 1, where it has time left, to 2.
        calls = [walker(0), walker(2), try_plan(2, [2, 2, 1, 1, 4])]
        self.assert_wrong([ground("102010\n#010#0")] + calls, [0, 1, 2], 2, 3)
        self.assert_wrong([ground("101010\n#010#0")] + calls, [0, 1, 2], 2, 6)

    def test_too_soon_comes_ahead_of_the_cell_it_leads_to(self):
        self.assert_wrong([ROUGH, walker(0), walker(2)], [0, 1, 2], 2, 3)

    def test_the_other_way_comes_ahead_of_the_cell_it_leads_to(self):
        # One goes the other way, and a third one comes to where that one was.
        calls = [NINE, walker(0), walker(1), walker(2)]
        calls += [try_plan(1, [0, 3]), try_plan(2, [1, 0]), try_plan(3, [2, 1])]
        self.assertEqual(ask(*calls)[4:], [[0], [0], [0]])
        self.assert_wrong(calls, [0, 1], 1, 6)

    def test_shut_comes_ahead_of_taken(self):
        # A door can be set only where no plan goes, so what is shut is never taken; taken is told where it is open.
        calls = [ground("10a010"), door(0, 2, 1, 1), walker(0), walker(2), try_plan(2, [2, 1, 2])]
        self.assertEqual(ask(*calls)[4], [0])
        self.assert_wrong(calls, [0, 1], 1, 5)
        self.assert_wrong(calls, [0, 0, 1], 2, 4)

    def test_no_rest_comes_last(self):
        self.assert_wrong([ROW, walker(0), walker(1)], [0, 1], 1, 5)
        self.assert_wrong([ground("10a0"), door(0, 2, 1, 0), walker(0)], [0, 1], 1, 4)
        self.assert_wrong([ground("10a0"), door(0, 2, 1, 1), walker(0)], [0, 1], 1, 7)


class Refused(unittest.TestCase):
    def test_a_number_out_of_range_at_any_place(self):
        for place in range(101):
            for number in (-1, 120, -2 ** 63, 2 ** 63 - 1):
                cells = [0] * 101
                cells[place] = number
                self.assertEqual(last(ROW, walker(0), try_plan(1, cells)), [-1])

    def test_a_cell_that_is_not_on_the_ground_at_any_place(self):
        for place in range(101):
            for number in (5, 119):
                cells = [0] * 101
                cells[place] = number
                self.assertEqual(last(ROW, walker(0), try_plan(1, cells)), [-3])

    def test_which_comes_first(self):
        self.assertEqual(ask(try_plan(1, [120]), try_plan(7, [0]), try_plan(1, [0])), [[-1], [-1], [-2]])
        self.assertEqual(last(ROW, try_plan(0, [5])), [-1])
        self.assertEqual(last(ROW, try_plan(1, [5, 120])), [-1])
        self.assertEqual(last(ROW, try_plan(1, [0, 5])), [-3])
        self.assertEqual(last(ROW, try_plan(1, [0, 4])), [-4])
        self.assertEqual(last(ROW, walker(0), remove(1), try_plan(1, [0])), [-4])
        self.assertEqual(last(ROW, walker(0), try_plan(1, [4, 5])), [-3])

    def test_a_list_that_is_too_long_or_empty(self):
        self.assertEqual(last(ROW, walker(0), try_plan(1, [0] * 102)), [-1])
        self.assertEqual(last(ROW, walker(0), try_plan(1, [])), [-1])

    def test_a_refusal_leaves_the_plan_as_it_was(self):
        for refused in (try_plan(1, [1, 120]), try_plan(1, [1, 5]), try_plan(2, [1]), try_plan(7, [1])):
            told = ask(ROW, walker(0), go(1, 4), pass_on(1), refused, plan(1), where(1))
            self.assertEqual(told[5:], [[4, 1, 2, 3, 4, 4], [1, 0, 4, 4]])

    def test_the_ground_as_changed(self):
        self.assertEqual(last(ROW, walker(0), change(1, 0, 0), try_plan(1, [0, 1])), [1, 1, 2])
        self.assertEqual(last(ROW, walker(0), change(1, 3, 0), try_plan(1, [0, 1, 2])), [1, 2, 3])


if __name__ == "__main__":
    unittest.main()
