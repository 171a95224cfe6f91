"""The refusals that the calls share: -1, -2, -3, -4, in this order, and ahead of a call's own."""

import unittest

from helper import ask, at, cell, change, door, field, flat, go, ground, last, pass_on, plan, proves, remove, walker
from helper import way, where

FAR = (-2 ** 63, -2 ** 31, 2 ** 31, 2 ** 63 - 1)

# Each call on a large ground with arguments in range, and for each argument its place in the call and its range.
IN_RANGE = (
    ([1, 0, 7, 3, 0], ((1, 0, 5), (2, 3, 20), (3, 0, 7), (4, 0, 19))),
    ([2, 0, 0], ((1, 0, 119), (2, 0, 119))),
    ([3, 0, 0], ((1, 0, 119), (2, 0, 119))),
    ([4, 0, 0, 0, 2, 0, 0], ((1, 0, 119), (2, 0, 119), (3, 0, 100000), (5, -100000, 100000), (6, -100000, 100000))),
    ([5, 0, 0], ((1, 0, 119), (2, 0, 100000))),
    ([6, 0], ((1, 0, 119),)),
    ([7, 0, 0], ((1, 0, 2), (2, 0, 119))),
    ([8, 0, 1, 0], ((1, 0, 119), (2, 0, 9), (3, 0, 9))),
    ([9, 0], ((1, 0, 119),)),
    ([10, 1, 0], ((1, 1, 6), (2, 0, 119))),
    ([11, 1], ((1, 1, 6),)),
    ([12, 1], ((1, 1, 1000),)),
    ([13, 1], ((1, 1, 6),)),
    ([14, 1], ((1, 1, 6),)),
    ([15, 1], ((1, 1, 6),)),
    ([16, 1, 3, 0, 1, 0], ((1, 1, 6), (3, 0, 119), (4, 0, 119), (5, 0, 119))),
    ([17, 0, 0], ((1, 0, 119), (2, 0, 2000000))),
    ([18, 0], ((1, 0, 119),)),
    ([19, 2, 0, 1], ((2, 0, 119), (3, 0, 119))),
)

# The calls that name a walker.
OF_WALKERS = [call for call, places in IN_RANGE if call[0] in (10, 11, 13, 14, 15, 16)]


def with_argument(call, place, number):
    return call[:place] + [number] + call[place + 1:]


def each_argument():
    return [(call, place, low, high) for call, ranges in IN_RANGE for place, low, high in ranges]


class Ranges(unittest.TestCase):
    def test_the_ends_of_each_range_are_in_it(self):
        laid = [ground(flat(12, 10)), field(0), field(0)]
        for call, place, low, high in each_argument():
            for number in (low, high):
                told = last(*laid, with_argument(call, place, number))
                self.assertNotEqual(told, [-1], (call, place, number))
                # There are only two fields, and no walkers.
                none = call[0] == 7 and number == 2 or call in OF_WALKERS
                self.assertEqual(told[0], -4) if none else self.assertTrue(told[0] >= 0, (call, place, number))

    def test_just_outside_and_far_outside(self):
        for laid in ([], [ground("10")], [ground(flat(12, 10))]):
            for call, place, low, high in each_argument():
                for number in (low - 1, high + 1) + FAR:
                    asked = with_argument(call, place, number)
                    self.assertEqual(last(*laid, asked), [-1], (laid, asked))

    def test_a_door_is_open_for_at_most_its_period(self):
        for period in range(1, 21):
            self.assertEqual(last(ground("a0"), door(0, period, period, 0)), [1])
            self.assertEqual(last(ground("a0"), door(0, period, period + 1, 0)), [-1])
        self.assertEqual(last(ground("a0"), door(0, 0, 0, 0)), [-1])
        self.assertEqual(last(ground("a0"), door(0, 21, 21, 0)), [-1])

    def test_every_number_of_the_prices_is_looked_at(self):
        for place in range(120):
            some = [0] * 120
            some[place] = 100001
            self.assertEqual(last(ground("10"), proves(0, 0, 0, some)), [-1])

    def test_each_of_six_walkers_can_be_named(self):
        six = [ground(flat(12, 10))] + [walker(place) for place in range(6)]
        for call in OF_WALKERS:
            for number in range(1, 7):
                self.assertNotIn(last(*six, with_argument(call, 1, number)), ([-1], [-4]))

    def test_a_list_longer_than_its_most(self):
        self.assertEqual(last(ground([49] * 301)), [-1])
        self.assertEqual(last(ground("10"), proves(0, 0, 0, [0] * 121)), [-1])


class Order(unittest.TestCase):
    def test_out_of_range_comes_ahead_of_no_ground(self):
        self.assertEqual(ask(way(120, 0), way(119, 0)), [[-1], [-2]])
        self.assertEqual(ask(door(0, 2, 3, 0), door(0, 2, 2, 0)), [[-1], [-2]])
        self.assertEqual(ask(at(3, 0), at(2, 0)), [[-1], [-2]])

    def test_no_ground_comes_ahead_of_a_cell_that_is_not_on_it(self):
        for call, places in IN_RANGE:
            self.assertEqual(last(call), [-2])
            self.assertEqual(ask(ground("x"), call)[1], [-2])

    def test_cells_that_are_not_on_the_ground(self):
        laid = ground("1010\n1010")
        for call, place, low, high in each_argument():
            if high == 119:
                self.assertNotEqual(last(laid, with_argument(call, place, 3)), [-3])
                self.assertEqual(last(laid, with_argument(call, place, 4)), [-3])
                self.assertEqual(last(laid, with_argument(call, place, 119)), [-3])

    def test_out_of_range_comes_ahead_of_a_cell_that_is_not_on_the_ground(self):
        laid = ground("10")
        self.assertEqual(last(laid, change(1, 10, 0)), [-1])
        self.assertEqual(last(laid, change(1, 0, 10)), [-1])
        self.assertEqual(last(laid, at(3, 1)), [-1])
        self.assertEqual(last(laid, way(1, 120)), [-1])
        self.assertEqual(last(laid, way(120, 1)), [-1])
        self.assertEqual(last(laid, [5, 1, -1]), [-1])
        self.assertEqual(last(laid, proves(1, 0, 0, [100001])), [-1])
        self.assertEqual(last(laid, proves(1, 0, 100001, [0])), [-1])

    def test_a_walker_that_there_is_none_of(self):
        for call in OF_WALKERS:
            self.assertEqual(last(ground("1010"), call), [-4])
            self.assertEqual(last(ground("1010"), walker(0), with_argument(call, 1, 2)), [-4])
            self.assertEqual(last(ground("1010"), walker(0), with_argument(call, 1, 6)), [-4])
            self.assertNotEqual(last(ground("1010"), walker(0), call), [-4])

    def test_a_walker_that_was_removed(self):
        for call in OF_WALKERS:
            self.assertEqual(last(ground("1010"), walker(0), remove(1), call), [-4])
            self.assertEqual(last(ground("1010"), walker(0), remove(1), walker(0), call), [-4])
            self.assertNotEqual(last(ground("1010"), walker(1), walker(0), remove(2), call), [-4])

    def test_a_walker_of_an_old_ground(self):
        for call in OF_WALKERS:
            self.assertEqual(last(ground("1010"), walker(0), ground("1010"), call), [-4])

    def test_no_ground_and_no_such_cell_come_ahead_of_no_such_walker(self):
        for call in OF_WALKERS:
            self.assertEqual(last(call), [-2])
        self.assertEqual(last(ground("10"), go(1, 1)), [-3])
        self.assertEqual(last(ground("10"), [16, 1, 2, 0, 1]), [-3])
        self.assertEqual(last(ground("10"), [16, 7, 2, 0, 1]), [-1])

    def test_a_calls_own_refusal_comes_last(self):
        full = [ground("10a010"), field(0), field(0), field(0), walker(1)]
        self.assertEqual(last(*full, field(120)), [-1])
        self.assertEqual(last(*full, field(3)), [-3])
        self.assertEqual(last(*full, field(0)), [-5])
        self.assertEqual(last(*full, door(0, 2, 3, 0)), [-1])
        self.assertEqual(last(*full, door(0, 2, 1, 0)), [-5])
        self.assertEqual(last(*full, change(1, 1, 10)), [-1])
        self.assertEqual(last(*full, change(1, 1, 1)), [-5])
        self.assertEqual(last(*full, walker(3)), [-3])
        self.assertEqual(last(*full, walker(1)), [-6])

    def test_a_list_is_not_taken_for_cells(self):
        self.assertEqual(last(ground("1010"), proves(0, 1, 1, [0, 1])), [1])
        self.assertEqual(last(ground("1010"), proves(0, 1, 1, [-119, -118])), [0])
        self.assertEqual(last(ground("1010"), proves(0, 1, 0, [0, 119])), [0])

    def test_what_is_refused_leaves_the_object_as_it_was(self):
        laid = [ground("10a01010"), field(2), walker(0), go(1, 2), pass_on(1)]
        after = [plan(1), where(1), cell(1), at(0, 0), way(0, 2), walker(3), change(0, 2, 0), at(0, 0)]
        after += [pass_on(1), where(1), plan(1), field(1), field(1), field(1)]
        expected = ask(*laid, *after)[len(laid):]
        for call, place, low, high in each_argument():
            for number in (low - 1, high + 1):
                told = ask(*laid, with_argument(call, place, number), *after)
                self.assertEqual(told[len(laid):], [[-1]] + expected)
        for call in OF_WALKERS:
            told = ask(*laid, with_argument(call, 1, 2), *after)
            self.assertEqual(told[len(laid):], [[-4]] + expected)
        for refused, number in ((go(1, 4), -3), ([16, 1, 2, 1, 4], -3), ([17, 4, 9], -3), ([19, 2, 0, 4], -3)):
            told = ask(*laid, refused, *after)
            self.assertEqual(told[len(laid):], [[number]] + expected)


if __name__ == "__main__":
    unittest.main()
