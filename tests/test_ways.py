"""way, prices (promise 3), proves and within."""

import unittest

from helper import ask, change, flat, ground, last, prices, proves, way, within

HILLS = ground("101214\n#01612\n103030")
PARTED = ground("10#010\n20#030")


class Ways(unittest.TestCase):
    def test_a_cheapest_way_is_told(self):
        self.assertEqual(last(ground("109010\n101010"), way(0, 2)), [1, 4, 5, 0, 3, 4, 5, 2])
        self.assertEqual(last(ground("103010\n101010"), way(0, 2)), [1, 4, 3, 0, 1, 2])

    def test_the_cell_gone_to_is_paid_not_the_one_left(self):
        self.assertEqual(last(ground("9020"), way(0, 1)), [1, 2, 2, 0, 1])
        self.assertEqual(last(ground("9020"), way(1, 0)), [1, 9, 2, 1, 0])

    def test_going_up_costs_more_and_going_down_does_not(self):
        self.assertEqual(last(ground("1335"), way(0, 1)), [1, 5, 2, 0, 1])
        self.assertEqual(last(ground("1314"), way(0, 1)), [1, 2, 2, 0, 1])
        self.assertEqual(last(ground("1513"), way(0, 1)), [1, 1, 2, 0, 1])
        self.assertEqual(last(ground("1514"), way(0, 1)), [1, 1, 2, 0, 1])

    def test_heights_that_differ_by_two_and_by_three(self):
        self.assertEqual(last(ground("1012"), way(0, 1)), [1, 3, 2, 0, 1])
        self.assertEqual(last(ground("1210"), way(0, 1)), [1, 1, 2, 0, 1])
        self.assertEqual(last(ground("1013"), way(0, 1)), [0])
        self.assertEqual(last(ground("1310"), way(0, 1)), [0])

    def test_over_hills(self):
        self.assertEqual(last(HILLS, way(0, 8)), [1, 10, 5, 0, 1, 2, 5, 8])
        self.assertEqual(last(HILLS, way(8, 0)), [1, 8, 5, 8, 5, 2, 1, 0])

    def test_going_back_the_least_cell_is_taken(self):
        self.assertEqual(last(ground(flat(3, 3)), way(0, 8)), [1, 4, 5, 0, 1, 2, 5, 8])
        self.assertEqual(last(ground(flat(3, 3)), way(8, 0)), [1, 4, 5, 8, 5, 2, 1, 0])
        self.assertEqual(last(ground(flat(3, 3)), way(2, 6)), [1, 4, 5, 2, 1, 0, 3, 6])
        self.assertEqual(last(ground(flat(3, 3)), way(6, 2)), [1, 4, 5, 6, 3, 0, 1, 2])

    def test_a_row_is_not_a_ring(self):
        self.assertEqual(last(ground("10#010\n101010"), way(2, 3)), [1, 3, 4, 2, 5, 4, 3])
        self.assertEqual(last(ground("1010\n#0#0\n1010"), way(1, 4)), [0])

    def test_s_the_same_as_t(self):
        self.assertEqual(last(HILLS, way(4, 4)), [1, 0, 1, 4])
        self.assertEqual(last(ground("90"), way(0, 0)), [1, 0, 1, 0])

    def test_a_wall(self):
        self.assertEqual(last(HILLS, way(3, 0)), [0])
        self.assertEqual(last(HILLS, way(0, 3)), [0])
        self.assertEqual(last(HILLS, way(3, 3)), [0])

    def test_no_way(self):
        self.assertEqual(last(PARTED, way(0, 2)), [0])
        self.assertEqual(last(PARTED, way(0, 3)), [1, 2, 2, 0, 3])

    def test_the_largest_ground(self):
        told = last(ground(flat(12, 10)), way(0, 119))
        self.assertEqual(told, [1, 20, 21] + list(range(12)) + [23, 35, 47, 59, 71, 83, 95, 107, 119])

    def test_the_ground_as_changed(self):
        self.assertEqual(last(ground(flat(3, 2)), change(1, 0, 0), way(0, 2)), [1, 4, 5, 0, 3, 4, 5, 2])
        self.assertEqual(last(PARTED, change(1, 4, 2), way(0, 2)), [1, 7, 3, 0, 1, 2])

    def test_cells_that_are_not_on_the_ground(self):
        for call in (way(9, 0), way(0, 9), way(119, 119)):
            self.assertEqual(last(HILLS, call), [-3])


class Prices(unittest.TestCase):
    def test_least_costs_but_at_most_what_the_way_costs(self):
        self.assertEqual(last(ground("10203040"), prices(0, 2)), [1, 5, 4, 0, 2, 5, 5])
        self.assertEqual(last(ground("10203040"), prices(1, 2)), [1, 3, 4, 1, 0, 3, 3])
        self.assertEqual(last(ground("101214"), prices(0, 2)), [1, 6, 3, 0, 3, 6])

    def test_where_no_way_leads_it_is_what_the_way_costs(self):
        self.assertEqual(last(PARTED, prices(0, 3)), [1, 2, 6, 0, 2, 2, 2, 2, 2])

    def test_s_the_same_as_t(self):
        self.assertEqual(last(PARTED, prices(3, 3)), [1, 0, 6, 0, 0, 0, 0, 0, 0])

    def test_no_way(self):
        self.assertEqual(last(PARTED, prices(0, 5)), [0])
        self.assertEqual(last(PARTED, prices(0, 1)), [0])
        self.assertEqual(last(PARTED, prices(1, 0)), [0])
        self.assertEqual(last(PARTED, prices(1, 1)), [0])

    def test_the_largest_ground(self):
        told = last(ground(flat(12, 10)), prices(0, 119))
        self.assertEqual(told, [1, 20, 120] + [row + column for row in range(10) for column in range(12)])

    def test_they_prove_what_the_way_costs_and_no_more(self):
        for s in range(9):
            for t in range(9):
                told = last(HILLS, prices(s, t))
                if told != [0]:
                    after = ask(HILLS, proves(s, t, told[1], told[3:]), proves(s, t, told[1] + 1, told[3:]))
                    self.assertEqual(after[1:], [[1], [0]])


class Proves(unittest.TestCase):
    def assert_proves(self, laid, s, t, n, some, expected):
        self.assertEqual(last(laid, proves(s, t, n, some)), [1 if expected else 0])

    def test_prices_that_prove(self):
        row = ground("102030")
        self.assert_proves(row, 0, 2, 5, [0, 2, 5], True)
        self.assert_proves(row, 0, 2, 4, [0, 2, 5], True)
        self.assert_proves(row, 0, 2, 5, [-1, 1, 4], False)
        self.assert_proves(row, 0, 2, 4, [-1, 1, 4], True)
        self.assert_proves(row, 0, 2, 0, [0, 0, 0], True)

    def test_as_many_prices_as_cells(self):
        row = ground("102030")
        self.assert_proves(row, 0, 2, 0, [], False)
        self.assert_proves(row, 0, 2, 0, [0, 0], False)
        self.assert_proves(row, 0, 2, 0, [0, 0, 0, 0], False)
        self.assert_proves(row, 0, 2, 0, [0] * 120, False)
        self.assert_proves(ground(flat(12, 10)), 0, 119, 0, [0] * 120, True)
        self.assert_proves(ground(flat(12, 10)), 0, 119, 0, [0] * 119, False)

    def test_the_price_of_s_is_at_most_0(self):
        self.assert_proves(ground("102030"), 0, 2, 5, [1, 3, 6], False)
        self.assert_proves(ground("102030"), 0, 2, 0, [1, 1, 1], False)

    def test_the_price_of_t_is_at_least_n(self):
        self.assert_proves(ground("102030"), 0, 2, 6, [0, 2, 5], False)

    def test_no_step_leads_to_a_price_too_high(self):
        self.assert_proves(ground("102030"), 0, 2, 5, [0, 3, 5], False)
        self.assert_proves(ground("102030"), 0, 2, 6, [0, 2, 6], False)
        self.assert_proves(ground("102030"), 2, 1, 0, [2, 0, 0], False)
        self.assert_proves(ground("102030"), 2, 1, 0, [1, 0, 0], True)

    def test_what_a_step_costs_with_heights(self):
        self.assert_proves(ground("1012"), 0, 1, 3, [0, 3], True)
        self.assert_proves(ground("1012"), 0, 1, 4, [0, 4], False)
        self.assert_proves(ground("1210"), 0, 1, 1, [0, 1], True)
        self.assert_proves(ground("1210"), 0, 1, 2, [0, 2], False)
        self.assert_proves(ground("1013"), 0, 1, 100000, [-100000, 100000], True)

    def test_steps_below_and_to_the_left_count_too(self):
        self.assert_proves(ground("10\n10"), 0, 1, 2, [0, 2], False)
        self.assert_proves(ground("10\n10"), 1, 0, 2, [2, 0], False)
        self.assert_proves(ground("1010"), 1, 0, 2, [2, 0], False)

    def test_where_no_step_leads_any_price_will_do(self):
        self.assert_proves(PARTED, 0, 2, 100000, [0, -7, 100000, 2, 7, 100000], True)
        self.assert_proves(PARTED, 1, 1, 0, [0, 0, 0, 0, 0, 0], True)
        self.assert_proves(PARTED, 1, 1, 1, [0, 0, 0, 0, 0, 0], False)

    def test_s_the_same_as_t(self):
        self.assert_proves(ground("10"), 0, 0, 0, [0], True)
        self.assert_proves(ground("10"), 0, 0, 1, [0], False)
        self.assert_proves(ground("10"), 0, 0, 0, [-1], False)


class Within(unittest.TestCase):
    def test_cells_rising(self):
        self.assertEqual(last(ground(flat(3, 3)), within(8, 2)), [6, 2, 4, 5, 6, 7, 8])

    def test_at_most_n(self):
        row = ground("102030")
        told = [last(row, within(0, n)) for n in range(7)]
        self.assertEqual(told, [[1, 0], [1, 0], [2, 0, 1], [2, 0, 1], [2, 0, 1], [3, 0, 1, 2], [3, 0, 1, 2]])

    def test_it_is_the_way_there_that_counts(self):
        self.assertEqual(last(ground("1090"), within(0, 1)), [1, 0])
        self.assertEqual(last(ground("1090"), within(1, 1)), [2, 0, 1])

    def test_a_wall(self):
        self.assertEqual(last(PARTED, within(1, 100000)), [0])

    def test_no_way(self):
        self.assertEqual(last(PARTED, within(5, 100000)), [2, 2, 5])

    def test_the_largest_ground(self):
        self.assertEqual(last(ground(flat(12, 10, "99")), within(0, 180)), [120] + list(range(120)))
        self.assertEqual(last(ground(flat(12, 10, "99")), within(0, 179)), [119] + list(range(119)))


if __name__ == "__main__":
    unittest.main()
