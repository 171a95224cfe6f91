"""Promise 12: pass; and what plan and where tell as time goes on."""

import unittest

from helper import ask, at, cell, change, door, field, flat, go, ground, joined, last, parted, pass_on, plan, remove
from helper import try_plan, walker, way, where
from roughways.ground import answers

ROUGH = ground("10203040")
LAST_TICK = 1000000


class Plan(unittest.TestCase):
    def test_a_walker_that_rests(self):
        self.assertEqual(ask(ROUGH, walker(2), plan(1), pass_on(9), plan(1))[2:], [[1, 2, 2], [9], [1, 2, 2]])

    def test_from_now_to_the_tick_from_which_it_rests(self):
        told = ask(ROUGH, walker(0), go(1, 3), plan(1))
        self.assertEqual(told[3], [7, 0, 1, 1, 2, 2, 2, 3, 3])

    def test_after_some_ticks_have_passed(self):
        told = ask(ROUGH, walker(0), go(1, 3), *[pass_on(1), plan(1)] * 7)
        self.assertEqual(told[4::2], [
            [6, 1, 1, 2, 2, 2, 3, 3],
            [5, 1, 2, 2, 2, 3, 3],
            [4, 2, 2, 2, 3, 3],
            [3, 2, 2, 3, 3],
            [2, 2, 3, 3],
            [1, 3, 3],
            [1, 3, 3],
        ])

    def test_several_ticks_at_once(self):
        for ticks in range(1, 12):
            one_by_one = ask(ROUGH, walker(0), go(1, 3), *[pass_on(1)] * ticks, plan(1), where(1))
            at_once = ask(ROUGH, walker(0), go(1, 3), pass_on(ticks), plan(1), where(1))
            self.assertEqual(at_once[-3:], one_by_one[-3:])

    def test_the_longest_plan(self):
        told = last(ground(flat(2, 1)), walker(0), try_plan(1, [0, 1] * 50 + [0]), plan(1))
        self.assertEqual(told, [101] + [0, 1] * 50 + [0, 0])

    def test_to_ask_changes_nothing(self):
        told = ask(ROUGH, walker(0), go(1, 3), plan(1), plan(1), where(1), where(1), plan(1))
        self.assertEqual(told[3], told[4])
        self.assertEqual(told[3], told[7])
        self.assertEqual(told[5], told[6])

    def test_refusals(self):
        self.assertEqual(ask(plan(1), plan(0), plan(7), ROUGH, plan(1)), [[-2], [-1], [-1], [4, 1], [-4]])
        self.assertEqual(ask(ROUGH, walker(0), plan(2), remove(1), plan(1))[2:], [[-4], [0], [-4]])


class Where(unittest.TestCase):
    def test_a_walker_that_rests(self):
        told = ask(ROUGH, walker(2), where(1), pass_on(8), where(1))
        self.assertEqual(told[2:], [[2, 0, 2, 0], [8], [2, 0, 2, 8]])

    def test_time_left_on_the_way_and_at_its_end(self):
        told = ask(ROUGH, walker(0), go(1, 3), where(1), *[pass_on(1), where(1)] * 11)
        self.assertEqual(told[3::2], [
            [0, 0, 3, 6],
            [1, 1, 3, 6],
            [1, 0, 3, 6],
            [2, 2, 3, 6],
            [2, 1, 3, 6],
            [2, 0, 3, 6],
            [3, 3, 3, 6],
            [3, 2, 3, 7],
            [3, 1, 3, 8],
            [3, 0, 3, 9],
            [3, 0, 3, 10],
            [3, 0, 3, 11],
        ])

    def test_beyond_the_end_of_a_plan_at_once(self):
        for ticks, left in ((1, 8), (2, 7), (8, 1), (9, 0), (10, 0), (1000, 0)):
            told = last(ground("1090"), walker(0), go(1, 1), pass_on(ticks), where(1))
            self.assertEqual(told, [1, left, 1, ticks])

    def test_going_up_leaves_more_time(self):
        self.assertEqual(last(ground("1012"), walker(0), go(1, 1), pass_on(1), where(1)), [1, 2, 1, 1])
        self.assertEqual(last(ground("1210"), walker(0), go(1, 1), pass_on(1), where(1)), [1, 0, 1, 1])

    def test_staying_longer_than_it_has_to(self):
        told = ask(ROUGH, walker(0), try_plan(1, [0, 0, 1, 1, 1, 1, 0]), *[pass_on(1), where(1)] * 6)
        self.assertEqual([answer[:2] for answer in told[4::2]], [[0, 0], [1, 1], [1, 0], [1, 0], [1, 0], [0, 0]])

    def test_the_ground_behind_it_may_change(self):
        going = [ROUGH, walker(0), go(1, 3), pass_on(3)]
        told = ask(*going, change(1, 0, 0), change(0, 9, 9), where(1), pass_on(3), where(1))
        self.assertEqual(told[4:], [[0], [0], [2, 2, 3, 6], [6], [3, 3, 3, 6]])

    def test_refusals(self):
        self.assertEqual(ask(where(1), where(0), where(7), ROUGH, where(1)), [[-2], [-1], [-1], [4, 1], [-4]])
        self.assertEqual(ask(ROUGH, walker(0), where(2), remove(1), where(1))[2:], [[-4], [0], [-4]])


class Pass(unittest.TestCase):
    def test_the_tick_that_it_is(self):
        self.assertEqual(ask(ROUGH, pass_on(1), pass_on(1000), pass_on(41))[1:], [[1], [1001], [1042]])

    def test_all_walkers_go_on(self):
        calls = [ground(flat(4, 2)), walker(0), walker(7), go(1, 3), go(2, 4), pass_on(2), where(1), where(2)]
        self.assertEqual(ask(*calls)[-2:], [[2, 0, 3, 3], [5, 0, 4, 3]])

    def test_doors_go_on(self):
        calls = [ground("a0"), door(0, 3, 1, 1), cell(0)] + [pass_on(1), cell(0)] * 5
        self.assertEqual([told[3] for told in ask(*calls)[2::2]], [0, 0, 1, 0, 0, 1])

    def test_a_new_ground_begins_at_tick_0(self):
        self.assertEqual(ask(ROUGH, pass_on(7), ROUGH, pass_on(1))[3], [1])
        self.assertEqual(ask(ROUGH, pass_on(7), ground("x"), pass_on(1))[3], [8])

    def test_ground_and_fields_stay(self):
        calls = [ROUGH, field(3), at(0, 0), way(0, 3), pass_on(5), at(0, 0), way(0, 3)]
        told = ask(*calls)
        self.assertEqual(told[2:4], told[5:7])

    def test_just_to_the_last_tick_and_no_later(self):
        to_the_end = [pass_on(1000)] * 999
        calls = [ROUGH, walker(0)] + to_the_end + [pass_on(999), pass_on(2), pass_on(1000), pass_on(1), pass_on(1)]
        told = parted(answers(joined(calls)))
        self.assertEqual(told[-5:], [[LAST_TICK - 1], [-5], [-5], [LAST_TICK], [-5]])

    def test_a_thousand_ticks_just_to_the_last(self):
        told = parted(answers(joined([ROUGH] + [pass_on(1000)] * 1001)))
        self.assertEqual(told[-2:], [[LAST_TICK], [-5]])

    def test_a_plan_may_rest_later_than_the_last_tick(self):
        calls = [ROUGH, walker(0)] + [pass_on(1000)] * 1000 + [go(1, 3), pass_on(1), where(1), plan(1)]
        told = parted(answers(joined(calls)))
        self.assertEqual(told[-4:], [[LAST_TICK + 6, 18], [-5], [0, 0, 3, LAST_TICK + 6], [7, 0, 1, 1, 2, 2, 2, 3, 3]])

    def test_refusals(self):
        self.assertEqual(ask(pass_on(0), pass_on(1001), pass_on(1)), [[-1], [-1], [-2]])
        told = ask(ROUGH, walker(0), go(1, 3), pass_on(0), pass_on(-1), pass_on(1001), where(1), pass_on(1))
        self.assertEqual(told[3:], [[-1], [-1], [-1], [0, 0, 3, 6], [1]])


if __name__ == "__main__":
    unittest.main()
