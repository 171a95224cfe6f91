"""Promises 14 and 15: remove and rest."""

import unittest

from helper import ask, change, door, flat, go, ground, last, pass_on, plan, remove, rest, try_plan, walker, where, who

NINE = ground(flat(3, 3))
ROW = ground(flat(5, 1))


class Remove(unittest.TestCase):
    def test_it_is_gone(self):
        calls = [where(1), plan(1), go(1, 0), rest(1), try_plan(1, [4]), remove(1)]
        told = ask(NINE, walker(4), remove(1), who(4, 0), *calls)
        self.assertEqual(told[2:], [[0], [0], [-4], [-4], [-4], [-4], [-4], [-4]])

    def test_so_is_its_plan(self):
        going = [ground("10a010"), walker(0), go(1, 2)]
        after = [change(2, 2, 0), door(0, 2, 1, 0), change(0, 1, 0)]
        self.assertEqual(ask(*going, *after)[3:], [[-5], [-5], [-5]])
        self.assertEqual(ask(*going, remove(1), *after)[4:], [[0], [1], [0]])

    def test_others_may_go_and_be_made_where_it_was(self):
        told = ask(ROW, walker(0), walker(2), go(1, 4), remove(2), go(1, 4), remove(1), walker(4), walker(0))
        self.assertEqual(told[3:], [[-5], [0], [4, 15], [0], [3], [4]])

    def test_its_number_is_not_used_again(self):
        told = ask(ROW, walker(0), remove(1), walker(0), remove(2), walker(0), where(1), where(2), where(3))
        self.assertEqual(told[1:], [[1], [0], [2], [0], [3], [-4], [-4], [0, 0, 0, 0]])

    def test_six_are_ever_made(self):
        calls = [ROW] + [walker(0), remove(1), walker(0), remove(2), walker(0), remove(3)]
        calls += [walker(0), remove(4), walker(0), remove(5), walker(0), remove(6)]
        self.assertEqual(ask(*calls)[1::2], [[number] for number in range(1, 7)])
        self.assertEqual(ask(*calls, walker(0), walker(0))[-2:], [[-5], [-5]])

    def test_a_new_ground_begins_with_the_first_again(self):
        self.assertEqual(ask(ROW, walker(0), remove(1), ROW, walker(0), where(1))[4:], [[1], [0, 0, 0, 0]])

    def test_the_others_stay(self):
        told = ask(ROW, walker(0), walker(2), walker(4), go(2, 1), remove(1), where(2), plan(2), where(3), who(2, 0))
        self.assertEqual(told[6:], [[2, 0, 1, 1], [2, 2, 1, 1], [4, 0, 4, 0], [2]])

    def test_refusals(self):
        self.assertEqual(ask(remove(1), remove(0), remove(7)), [[-2], [-1], [-1]])
        told = ask(ROW, walker(0), remove(2), remove(6), remove(7), remove(0), where(1), remove(1), remove(1))
        self.assertEqual(told[2:], [[-4], [-4], [-1], [-1], [0, 0, 0, 0], [0], [-4]])


class Rest(unittest.TestCase):
    def test_where_it_is_if_it_may(self):
        told = ask(NINE, walker(4), rest(1), pass_on(3), rest(1), plan(1))
        self.assertEqual(told[2:], [[0, 4, 1], [3], [3, 4, 1], [1, 4, 4]])

    def test_on_its_way(self):
        told = ask(ROW, walker(0), go(1, 4), pass_on(2), rest(1), plan(1), where(1), pass_on(5), where(1))
        self.assertEqual(told[4:], [[2, 2, 1], [1, 2, 2], [2, 0, 2, 2], [7], [2, 0, 2, 7]])

    def test_with_time_left(self):
        told = ask(ground("109010"), walker(0), go(1, 2), pass_on(3), rest(1), where(1), pass_on(4), where(1), go(1, 0))
        self.assertEqual(told[4:], [[3, 1, 1], [1, 6, 1, 3], [7], [1, 2, 1, 7], [10, 1 + 1 + 1 + 3]])

    def test_from_a_door_that_shuts(self):
        # At tick 3 it is in the door; at the next one it can be on either side.
        calls = [ground("10a010"), door(0, 3, 1, 0), walker(0), go(1, 2), pass_on(3)]
        self.assertEqual(ask(*calls, rest(1), plan(1), where(1))[5:], [[4, 0, 3], [2, 1, 0, 0], [1, 0, 0, 4]])

    def test_from_a_door_that_stays_open_for_a_while(self):
        # The step up to the door costs 3: it can leave it only at tick 4.
        calls = [ground("10a210"), door(0, 9, 4, 8), walker(0), go(1, 2), pass_on(2)]
        self.assertEqual(ask(*calls, rest(1), plan(1))[5:], [[4, 0, 1 + 1 + 3], [3, 1, 1, 0, 0]])

    def test_from_a_cell_that_another_comes_to(self):
        calls = [ROW, walker(2), walker(4), go(1, 0), go(2, 1), rest(1), plan(1), plan(2)]
        self.assertEqual(ask(*calls)[3:], [[2, 8], [3, 10], [2, 0, 5], [3, 2, 1, 0, 0], [4, 4, 3, 2, 1, 1]])

    def test_the_least_cell_that_will_do(self):
        calls = [NINE, walker(4), walker(5), go(1, 7), try_plan(2, [5, 4])]
        self.assertEqual(ask(*calls, rest(1), plan(1))[4:], [[0], [1, 1, 1 + 3], [2, 4, 1, 1]])
        self.assertEqual(ask(*calls, walker(1), rest(1), plan(1))[5:], [[3], [1, 3, 1 + 2], [2, 4, 3, 3]])

    def test_a_cell_that_another_comes_to_later_will_not_do(self):
        calls = [NINE, walker(4), walker(5), go(1, 7), try_plan(2, [5, 4, 1, 2])]
        self.assertEqual(ask(*calls, rest(1), plan(1))[5:], [[1, 3, 1 + 3], [2, 4, 3, 3]])

    def test_refusals(self):
        self.assertEqual(ask(rest(1), rest(0), rest(7)), [[-2], [-1], [-1]])
        told = ask(ROW, walker(0), go(1, 2), rest(2), rest(6), rest(7), rest(0), plan(1), remove(1), rest(1))
        self.assertEqual(told[3:], [[-4], [-4], [-1], [-1], [3, 0, 1, 2, 2], [0], [-4]])

    def test_the_others_keep_their_plans(self):
        told = ask(ROW, walker(0), walker(4), go(1, 1), go(2, 3), rest(1), plan(2), where(2))
        self.assertEqual(told[5:], [[0, 0, 1], [2, 4, 3, 3], [4, 0, 3, 1]])


if __name__ == "__main__":
    unittest.main()
