"""The refusals that the calls share: -1, -2, -3, in this order, and ahead of a call's own."""

import unittest

from helper import ask, at, change, door, field, flat, ground, last, proves, walker, way

FAR = (-2 ** 63, -2 ** 31, 2 ** 31, 2 ** 63 - 1)

# Each call on a large ground with arguments in range, and for each argument its place in the call and its range.
IN_RANGE = (
    ([1, 0, 7, 3, 0], ((1, 0, 5), (2, 3, 20), (3, 0, 7), (4, 0, 19))),
    ([2, 0, 0], ((1, 0, 119), (2, 0, 119))),
    ([3, 0, 0], ((1, 0, 119), (2, 0, 119))),
    ([4, 0, 0, 0, 2, 0, 0], ((1, 0, 119), (2, 0, 119), (3, 0, 100000), (5, -100000, 100000), (6, -100000, 100000))),
    ([5, 0, 0], ((1, 0, 119), (2, 0, 100000))),
    ([6, 0], ((1, 0, 119),)),
    ([7, 0, 0], ((1, 0, 2), (2, 0, 119))),
    ([8, 0, 1, 0], ((1, 0, 119), (2, 0, 9), (3, 0, 9))),
    ([9, 0], ((1, 0, 119),)),
)


def with_argument(call, place, number):
    return call[:place] + [number] + call[place + 1:]


def each_argument():
    return [(call, place, low, high) for call, ranges in IN_RANGE for place, low, high in ranges]


class Ranges(unittest.TestCase):
    def test_the_ends_of_each_range_are_in_it(self):
        laid = [ground(flat(12, 10)), field(0), field(0)]
        for call, place, low, high in each_argument():
            for number in (low, high):
                told = last(*laid, with_argument(call, place, number))
                self.assertNotEqual(told, [-1], (call, place, number))
                self.assertTrue(told[0] >= 0 or call[0] == 7 and number == 2 and told == [-4], (call, place, number))

    def test_just_outside_and_far_outside(self):
        for laid in ([], [ground("10")], [ground(flat(12, 10))]):
            for call, place, low, high in each_argument():
                for number in (low - 1, high + 1) + FAR:
                    asked = with_argument(call, place, number)
                    self.assertEqual(last(*laid, asked), [-1], (laid, asked))

    def test_a_door_is_open_for_at_most_its_period(self):
        for period in range(1, 21):
            self.assertEqual(last(ground("a0"), door(0, period, period, 0)), [1])
            self.assertEqual(last(ground("a0"), door(0, period, period + 1, 0)), [-1])
        self.assertEqual(last(ground("a0"), door(0, 0, 0, 0)), [-1])
        self.assertEqual(last(ground("a0"), door(0, 21, 21, 0)), [-1])

    def test_every_number_of_the_prices_is_looked_at(self):
        for place in range(120):
            some = [0] * 120
            some[place] = 100001
            self.assertEqual(last(ground("10"), proves(0, 0, 0, some)), [-1])

    def test_a_list_longer_than_its_most(self):
        self.assertEqual(last(ground([49] * 301)), [-1])
        self.assertEqual(last(ground("10"), proves(0, 0, 0, [0] * 121)), [-1])


class Order(unittest.TestCase):
    def test_out_of_range_comes_ahead_of_no_ground(self):
        self.assertEqual(ask(way(120, 0), way(119, 0)), [[-1], [-2]])
        self.assertEqual(ask(door(0, 2, 3, 0), door(0, 2, 2, 0)), [[-1], [-2]])
        self.assertEqual(ask(at(3, 0), at(2, 0)), [[-1], [-2]])

    def test_no_ground_comes_ahead_of_a_cell_that_is_not_on_it(self):
        for call, places in IN_RANGE:
            self.assertEqual(last(call), [-2])
            self.assertEqual(ask(ground("x"), call)[1], [-2])

    def test_cells_that_are_not_on_the_ground(self):
        laid = ground("1010\n1010")
        for call, place, low, high in each_argument():
            if high == 119:
                self.assertNotEqual(last(laid, with_argument(call, place, 3)), [-3])
                self.assertEqual(last(laid, with_argument(call, place, 4)), [-3])
                self.assertEqual(last(laid, with_argument(call, place, 119)), [-3])

    def test_out_of_range_comes_ahead_of_a_cell_that_is_not_on_the_ground(self):
        laid = ground("10")
        self.assertEqual(last(laid, change(1, 10, 0)), [-1])
        self.assertEqual(last(laid, change(1, 0, 10)), [-1])
        self.assertEqual(last(laid, at(3, 1)), [-1])
        self.assertEqual(last(laid, way(1, 120)), [-1])
        self.assertEqual(last(laid, way(120, 1)), [-1])
        self.assertEqual(last(laid, [5, 1, -1]), [-1])
        self.assertEqual(last(laid, proves(1, 0, 0, [100001])), [-1])
        self.assertEqual(last(laid, proves(1, 0, 100001, [0])), [-1])

    def test_a_calls_own_refusal_comes_last(self):
        full = [ground("10a010"), field(0), field(0), field(0), walker(1)]
        self.assertEqual(last(*full, field(120)), [-1])
        self.assertEqual(last(*full, field(3)), [-3])
        self.assertEqual(last(*full, field(0)), [-5])
        self.assertEqual(last(*full, door(0, 2, 3, 0)), [-1])
        self.assertEqual(last(*full, door(0, 2, 1, 0)), [-5])
        self.assertEqual(last(*full, change(1, 1, 10)), [-1])
        self.assertEqual(last(*full, change(1, 1, 1)), [-5])
        self.assertEqual(last(*full, walker(3)), [-3])
        self.assertEqual(last(*full, walker(1)), [-6])

    def test_a_list_is_not_taken_for_cells(self):
        self.assertEqual(last(ground("1010"), proves(0, 1, 1, [0, 1])), [1])
        self.assertEqual(last(ground("1010"), proves(0, 1, 1, [-119, -118])), [0])
        self.assertEqual(last(ground("1010"), proves(0, 1, 0, [0, 119])), [0])

    def test_what_is_refused_leaves_the_object_as_it_was(self):
        laid = [ground("10a010"), field(2), walker(1)]
        after = [at(0, 0), way(0, 2), walker(2), change(0, 2, 0), at(0, 0), field(1), field(1), field(1)]
        expected = ask(*laid, *after)[len(laid):]
        for call, place, low, high in each_argument():
            for number in (low - 1, high + 1):
                told = ask(*laid, with_argument(call, place, number), *after)
                self.assertEqual(told[len(laid) + 1:], expected)


if __name__ == "__main__":
    unittest.main()
