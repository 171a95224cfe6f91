"""Promise 10: go, the earliest plan, and how many places were looked at."""

import unittest

from helper import ask, change, door, flat, go, ground, last, pass_on, plan, remove, try_plan, walker, where

SQUARE = ground(flat(2, 2))
NINE = ground(flat(3, 3))

# From cell 0 to cell 23 it takes 11 cells of cost 9: a hundred ticks.
LONG = ground("90" * 12 + "\n" + "#0" * 11 + "10")

# To 6 it is quicker by way of 2, but through 6 by way of 5: there it comes later, and may go on sooner.
STEEP = ground("101020#0\n11121212")


class Told(unittest.TestCase):
    """What go answers, and the plan that the walker then has."""

    def assert_goes(self, calls, w, t, answer, cells):
        told = ask(*calls, go(w, t), plan(w), where(w))[len(calls):]
        self.assertEqual(told[0], answer)
        self.assertEqual(told[1], [len(cells)] + cells + [t])
        self.assertEqual([told[2][0]] + told[2][2:], [cells[0], t, answer[0]])


class FreeWays(Told):
    def test_a_row(self):
        self.assert_goes([ground(flat(4, 1)), walker(0)], 1, 3, [3, 10], [0, 1, 2, 3])
        self.assert_goes([ground(flat(4, 1)), walker(3)], 1, 1, [2, 6], [3, 2, 1])

    def test_a_step_takes_as_many_ticks_as_it_costs(self):
        self.assert_goes([ground("10203040"), walker(0)], 1, 3, [6, 18], [0, 1, 1, 2, 2, 2, 3])
        self.assert_goes([ground("10203040"), walker(3)], 1, 0, [6, 17], [3, 2, 2, 2, 1, 1, 0])

    def test_going_up_takes_longer_and_going_down_does_not(self):
        self.assert_goes([ground("101214"), walker(0)], 1, 2, [4, 10], [0, 1, 1, 1, 2])
        self.assert_goes([ground("141210"), walker(0)], 1, 2, [2, 6], [0, 1, 2])
        self.assertEqual(last(ground("1013"), walker(0), go(1, 1)), [-5])

    def test_a_walker_that_is_already_there(self):
        self.assert_goes([NINE, walker(4)], 1, 4, [0, 1], [4])
        self.assert_goes([NINE, walker(4), pass_on(5)], 1, 4, [5, 1], [4])

    def test_it_rests_as_soon_as_it_comes_though_it_has_time_left(self):
        calls = [ground("1090"), walker(0), go(1, 1), pass_on(1), where(1)]
        self.assertEqual(ask(*calls)[2:], [[1, 3], [1], [1, 8, 1, 1]])

    def test_a_walker_there_already_with_time_left(self):
        self.assert_goes([ground("109010"), walker(0), go(1, 2), pass_on(3)], 1, 1, [3, 1], [1])

    def test_ticks_count_from_0_not_from_now(self):
        self.assert_goes([ground(flat(4, 1)), walker(0), pass_on(1000)], 1, 3, [1003, 10], [0, 1, 2, 3])

    def test_no_way(self):
        self.assertEqual(last(ground("10#010"), walker(0), go(1, 2)), [-5])
        self.assertEqual(last(ground("10#010"), walker(0), go(1, 1)), [-5])

    def test_a_new_plan_in_the_place_of_another(self):
        self.assert_goes([ground(flat(5, 1)), walker(2), go(1, 4), pass_on(1)], 1, 0, [4, 1 + 3 + 4 + 5], [3, 2, 1, 0])

    def test_a_walker_with_time_left_that_is_sent_elsewhere(self):
        self.assert_goes([ground("103010"), walker(0), go(1, 2), pass_on(2)], 1, 0, [4, 5], [1, 1, 0])
        self.assert_goes([ground("103010"), walker(0), go(1, 2), pass_on(1)], 1, 0, [4, 6], [1, 1, 1, 0])
        self.assert_goes([ground("103010"), walker(0), go(1, 2), pass_on(3)], 1, 0, [4, 4], [1, 0])


class WayBack(Told):
    def test_several_cells_would_do_and_the_least_is_taken(self):
        self.assert_goes([SQUARE, walker(0)], 1, 3, [2, 8], [0, 1, 3])
        self.assert_goes([SQUARE, walker(3)], 1, 0, [2, 8], [3, 1, 0])
        self.assert_goes([NINE, walker(8)], 1, 0, [4, 1 + 3 + 6 + 8 + 9], [8, 5, 2, 1, 0])
        self.assert_goes([NINE, walker(6)], 1, 2, [4, 27], [6, 3, 0, 1, 2])

    def test_staying_comes_ahead_of_stepping(self):
        calls = [ground("1010a010"), door(0, 7, 1, 1), walker(0)]
        self.assert_goes(calls, 1, 3, [7, 1 + 2 * 5 + 3 + 3], [0, 1, 1, 1, 1, 1, 2, 3])

    def test_a_step_that_leaves_less_than_staying_does(self):
        self.assert_goes([STEEP, walker(0)], 1, 6, [4, 20], [0, 1, 2, 2, 6])
        self.assert_goes([STEEP, walker(0)], 1, 7, [6, 33], [0, 1, 5, 5, 5, 6, 7])

    def test_of_two_steps_the_one_that_leaves_less_time(self):
        # At tick 2 it can come to cell 3 on a level, or from two below.
        self.assert_goes([ground("1212\n1012"), walker(0)], 1, 3, [2, 8], [0, 1, 3])
        self.assert_goes([ground("1210\n1212"), walker(0)], 1, 3, [2, 8], [0, 2, 3])
        for text in ("1212\n1012", "1210\n1212"):
            self.assertEqual(last(ground(text), walker(0), go(1, 3), pass_on(2), where(1)), [3, 0, 3, 2])

    def test_it_came_from_a_cell_where_no_time_was_left(self):
        self.assert_goes([ground("1030\n1010"), walker(0)], 1, 3, [2, 8], [0, 2, 3])

    def test_no_step_is_taken_back_where_another_goes_the_other_way(self):
        self.assert_goes([SQUARE, walker(0), walker(3), try_plan(2, [3, 3, 1])], 1, 3, [2, 7], [0, 2, 3])


class Doors(Told):
    def test_waiting_for_a_door(self):
        self.assert_goes([ground("10a010"), door(0, 4, 1, 0), walker(0)], 1, 2, [5, 8], [0, 0, 0, 0, 1, 2])
        self.assert_goes([ground("10a010"), door(0, 4, 1, 3), walker(0)], 1, 2, [2, 5], [0, 1, 2])

    def test_the_tick_that_it_is_counts_for_the_door(self):
        self.assert_goes([ground("10a010"), door(0, 4, 1, 0), walker(0), pass_on(2)], 1, 2, [5, 6], [0, 0, 1, 2])

    def test_a_door_has_to_be_open_as_long_as_it_is_there(self):
        # The step up to the door costs 3, so it has to be open for three ticks on end.
        steep = ground("10a214")
        self.assertEqual(last(steep, door(0, 9, 2, 8), walker(0), go(1, 2)), [-5])
        self.assert_goes([steep, door(0, 9, 3, 8), walker(0)], 1, 2, [4, 1 + 2 + 2 + 2 + 2], [0, 1, 1, 1, 2])

    def test_a_door_that_is_not_always_open_is_no_place_to_rest(self):
        self.assertEqual(last(ground("10a0"), door(0, 20, 19, 0), walker(0), go(1, 1)), [-5])
        self.assert_goes([ground("10a0"), door(0, 20, 20, 5), walker(0)], 1, 1, [1, 3], [0, 1])

    def test_a_door_that_is_never_open(self):
        self.assertEqual(last(ground("10a010"), door(0, 5, 0, 0), walker(0), go(1, 2)), [-5])

    def test_a_walker_in_a_door_has_to_go_on(self):
        calls = [ground("10a010"), door(0, 3, 1, 0), walker(0), go(1, 2), pass_on(3)]
        self.assert_goes(calls, 1, 0, [4, 3], [1, 0])


class Others(Told):
    def test_waiting_for_another_walker_to_pass(self):
        # Cell 7 is a bay below cell 2: the second one comes along the corridor and goes in there.
        calls = [ground("1010101010\n#0#010#0#0"), walker(0), walker(4), go(2, 7)]
        self.assertEqual(ask(*calls)[3], [3, 1 + 2 + 3 + 5])
        self.assert_goes(calls, 1, 4, [5, 17], [0, 1, 1, 2, 3, 4])

    def test_face_to_face_in_a_corridor(self):
        calls = [ground(flat(5, 1)), walker(0), walker(4), go(1, 4), go(2, 0), go(1, 3), go(2, 1), go(2, 3)]
        self.assertEqual(ask(*calls)[3:], [[-5], [-5], [3, 10], [-5], [-5]])

    def test_no_two_change_places(self):
        calls = [SQUARE, walker(0), walker(1), try_plan(1, [0, 2]), try_plan(2, [1, 0])]
        self.assertEqual(ask(*calls)[3:], [[0], [0]])
        self.assert_goes(calls, 1, 1, [3, 7], [0, 2, 3, 1])

    def test_one_may_come_as_the_other_leaves(self):
        calls = [ground(flat(4, 1)), walker(0), walker(1), go(2, 3)]
        self.assert_goes(calls, 1, 2, [2, 6], [0, 1, 2])

    def test_a_cell_that_another_comes_by_later(self):
        calls = [NINE, walker(3), walker(1), try_plan(2, [1, 1, 1, 4, 7])]
        self.assert_goes(calls, 1, 4, [4, 27], [3, 0, 0, 1, 4])

    def test_a_walker_that_is_there_and_may_not_rest(self):
        calls = [ground(flat(3, 2)), walker(1), walker(0), try_plan(1, [1, 4]), go(2, 2)]
        self.assertEqual(ask(*calls)[4:], [[2, 1 + 3 + 4]])
        self.assert_goes(calls, 1, 1, [2, 1 + 2 + 4], [1, 4, 1])

    def test_a_cell_where_another_rests(self):
        self.assertEqual(last(NINE, walker(0), walker(8), go(1, 8)), [-5])
        self.assertEqual(last(NINE, walker(0), walker(8), go(2, 7), go(1, 7)), [-5])
        self.assert_goes([NINE, walker(0), walker(8), go(2, 7)], 1, 8, [4, 1 + 3 + 6 + 7 + 8], [0, 1, 2, 5, 8])

    def test_another_that_was_removed_is_no_hindrance(self):
        self.assert_goes([ground(flat(3, 1)), walker(0), walker(1), remove(2)], 1, 2, [2, 6], [0, 1, 2])
        self.assertEqual(last(ground(flat(3, 1)), walker(0), walker(1), go(1, 2)), [-5])

    def test_the_others_keep_their_plans(self):
        told = ask(NINE, walker(0), walker(8), go(2, 6), go(1, 8), plan(2), where(2))
        self.assertEqual(told[3:], [[2, 10], [4, 1 + 3 + 5 + 7 + 8], [3, 8, 7, 6, 6], [8, 0, 6, 2]])


class Latest(Told):
    def test_a_hundred_ticks_from_now(self):
        self.assertEqual(ask(LONG, walker(0), go(1, 23))[2], [100, 707])
        self.assertEqual(ask(LONG, walker(0), pass_on(7), go(1, 23))[3], [107, 707])
        self.assertEqual(ask(LONG, walker(0), go(1, 23), plan(1))[3][0], 101)

    def test_a_tick_more_is_too_late(self):
        self.assertEqual(ask(LONG, walker(0), change(5, 9, 1), go(1, 23))[3], [-5])
        self.assertEqual(ask(LONG, walker(0), change(5, 9, 1), go(1, 11))[3][0], 92)

    def test_once_it_is_on_its_way_it_may_go_farther(self):
        calls = [LONG, walker(0), change(5, 9, 1), go(1, 11), pass_on(1), go(1, 23)]
        self.assertEqual(ask(*calls)[-1][0], 101)

    def test_time_left_counts_among_the_hundred(self):
        calls = [LONG, walker(0), go(1, 1), pass_on(1), go(1, 0), pass_on(10), where(1), go(1, 23)]
        self.assertEqual(ask(*calls)[-3:], [[11], [0, 7, 0, 11], [-5]])
        self.assertEqual(ask(*calls[:-1], pass_on(7), go(1, 23))[-1], [118, 707])


class Refused(unittest.TestCase):
    def test_a_refusal_leaves_the_plan_as_it_was(self):
        calls = [ground("10201010#0"), walker(0), walker(3), go(1, 2), pass_on(1)]
        after = [plan(1), where(1), plan(2), where(2), pass_on(1), where(1), go(1, 0)]
        expected = ask(*calls, *after)[len(calls):]
        self.assertEqual(expected[0], [3, 1, 1, 2, 2])
        self.assertEqual(expected[1], [1, 1, 2, 3])
        for refused in (go(1, 3), go(1, 4), go(1, 5), go(1, 120), go(3, 0), go(7, 0), go(0, 0)):
            self.assertEqual(ask(*calls, refused, *after)[len(calls) + 1:], expected, refused)

    def test_a_walker_that_there_is_none_of(self):
        self.assertEqual(last(NINE, go(1, 0)), [-4])
        self.assertEqual(last(NINE, walker(0), go(2, 0)), [-4])
        self.assertEqual(last(NINE, walker(0), remove(1), go(1, 0)), [-4])

    def test_which_refusal_comes_first(self):
        self.assertEqual(last(go(7, 0)), [-1])
        self.assertEqual(last(go(1, 120)), [-1])
        self.assertEqual(last(go(1, 119)), [-2])
        self.assertEqual(last(NINE, go(7, 9)), [-1])
        self.assertEqual(last(NINE, go(1, 9)), [-3])
        self.assertEqual(last(ground("10#0"), go(1, 1)), [-4])
        self.assertEqual(last(ground("10#0"), walker(0), go(1, 1)), [-5])


if __name__ == "__main__":
    unittest.main()
