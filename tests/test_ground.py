"""Promise 0: ground as text, which byte is wrong, and what a new ground brings."""

import unittest

from helper import ask, at, change, door, field, flat, ground, last, prices, walker, way, within


class RightTexts(unittest.TestCase):
    def assert_size(self, text, wide, high):
        self.assertEqual(last(ground(text)), [wide, high])

    def test_sizes(self):
        self.assert_size("10", 1, 1)
        self.assert_size("1099", 2, 1)
        self.assert_size("10\n99", 1, 2)
        self.assert_size("10#5f9\n203040", 3, 2)
        self.assert_size(flat(12, 1), 12, 1)
        self.assert_size(flat(1, 10), 1, 10)
        self.assert_size(flat(12, 10), 12, 10)

    def test_every_first_and_second_byte_of_a_cell(self):
        for first in "123456789#abcdef":
            for height in "0123456789":
                self.assert_size(first + height, 1, 1)

    def test_costs_walls_and_doors_are_read(self):
        self.assertEqual(last(ground("10203040506070"), way(0, 6)), [1, 27, 7, 0, 1, 2, 3, 4, 5, 6])
        self.assertEqual(last(ground("108090\n#0#0a0"), way(0, 5)), [1, 18, 4, 0, 1, 2, 5])
        for which, sign in enumerate("abcdef"):
            self.assertEqual(last(ground("10" + sign + "0"), way(0, 1)), [1, 1, 2, 0, 1])
            for other in range(6):
                expected = [2 if other == which else 0]
                self.assertEqual(last(ground(f"10{sign}0\n{sign}910"), door(other, 1, 1, 0)), expected)

    def test_heights_are_read(self):
        for height in range(10):
            for above in range(10):
                reached = abs(height - above) <= 2
                cost = 1 + max(0, above - height)
                expected = [1, cost, 2, 0, 1] if reached else [0]
                self.assertEqual(last(ground(f"1{height}1{above}"), way(0, 1)), expected)

    def test_rows_are_laid_from_the_upper_left(self):
        self.assertEqual(last(ground("102030\n405060"), prices(0, 5)), [1, 11, 6, 0, 2, 5, 4, 7, 11])


class WrongTexts(unittest.TestCase):
    def assert_wrong(self, text, place):
        self.assertEqual(last(ground(text)), [-1000 - place], repr(text))

    def test_no_cell_where_one_should_begin(self):
        self.assert_wrong("", 0)
        self.assert_wrong("00", 0)
        self.assert_wrong("g0", 0)
        self.assert_wrong("A0", 0)
        self.assert_wrong(" 10", 0)
        self.assert_wrong("\n10", 0)
        self.assert_wrong("10\n", 3)
        self.assert_wrong("10\n\n10", 3)
        self.assert_wrong("10\nx0", 3)
        self.assert_wrong([34, 48], 0)
        self.assert_wrong([36, 48], 0)
        self.assert_wrong([58, 48], 0)
        self.assert_wrong([96, 48], 0)
        self.assert_wrong([0], 0)
        self.assert_wrong([255], 0)

    def test_a_thirteenth_cell(self):
        self.assert_wrong(flat(13, 1), 24)
        self.assert_wrong(flat(14, 1), 24)
        self.assert_wrong(flat(13, 10), 24)

    def test_a_cell_too_many_in_a_later_row(self):
        self.assert_wrong("1010\n101010", 9)
        self.assert_wrong("10\n10\n1010\n", 8)
        self.assert_wrong(flat(12, 1) + "\n" + flat(13, 1), 49)

    def test_a_row_too_short(self):
        self.assert_wrong("1010\n10", 7)
        self.assert_wrong("1010\n10\n1010", 7)
        self.assert_wrong("1010\n10x0", 7)
        self.assert_wrong("101010\n1010\n", 11)

    def test_a_row_that_does_not_end(self):
        self.assert_wrong("10x0", 2)
        self.assert_wrong("1000", 2)
        self.assert_wrong("10 ", 2)
        self.assert_wrong("1010\n1010g", 9)
        self.assert_wrong("10\r\n10", 2)
        self.assert_wrong(flat(12, 1) + "x", 24)
        self.assert_wrong([49, 48, 0], 2)

    def test_an_eleventh_row(self):
        self.assert_wrong(flat(1, 11), 29)
        self.assert_wrong(flat(1, 10) + "\n", 29)
        self.assert_wrong(flat(1, 10) + "\nx", 29)
        self.assert_wrong(flat(12, 11), 249)
        self.assert_wrong(flat(12, 10) + "\n", 249)

    def test_a_tenth_row_is_held_to_the_rules_too(self):
        self.assert_wrong(flat(2, 9) + "\n10", 47)
        self.assert_wrong(flat(2, 9) + "\n10\n", 47)
        self.assert_wrong(flat(2, 9) + "\n101010", 49)
        self.assert_wrong(flat(2, 9) + "\n", 45)
        self.assert_wrong(flat(2, 10) + "x", 49)

    def test_a_second_byte_that_is_wrong(self):
        self.assert_wrong("1x", 1)
        self.assert_wrong("1\n", 1)
        self.assert_wrong("#a10", 1)
        self.assert_wrong("f##", 1)
        self.assert_wrong("101x", 3)
        self.assert_wrong("101x10", 3)
        self.assert_wrong("1010\n1x10", 6)
        self.assert_wrong("1010\n101\n", 8)
        self.assert_wrong([49, 47], 1)
        self.assert_wrong([49, 58], 1)

    def test_a_second_byte_that_is_wrong_beyond_the_last_cell(self):
        self.assert_wrong(flat(12, 1) + "1x", 25)
        self.assert_wrong("10\n101x", 6)
        self.assert_wrong(flat(1, 10) + "1x", 30)

    def test_a_second_byte_that_is_missing(self):
        self.assert_wrong("1", 0)
        self.assert_wrong("#", 0)
        self.assert_wrong("a", 0)
        self.assert_wrong("101", 2)
        self.assert_wrong("1010\n1", 5)
        self.assert_wrong("1010\n101", 7)
        self.assert_wrong("1010\n10101", 9)
        self.assert_wrong(flat(12, 1) + "1", 24)

    def test_the_first_wrong_place_from_the_left_is_told(self):
        self.assert_wrong("1x\nx", 1)
        self.assert_wrong("1010\n10\nx", 7)
        self.assert_wrong("10\n1010\n1x", 5)
        self.assert_wrong(flat(13, 1) + "1x", 24)

    def test_the_longest_text(self):
        self.assert_wrong("10" * 150, 24)
        self.assert_wrong([0] * 300, 0)
        self.assert_wrong([255] * 300, 0)


class Bytes(unittest.TestCase):
    def test_a_number_that_is_no_byte(self):
        for number in (-1, 256, -2 ** 63, 2 ** 63 - 1):
            for text in ([number], [49, number], [49, 48, number], [0] * 299 + [number]):
                self.assertEqual(last(ground(text)), [-1])

    def test_no_byte_comes_ahead_of_a_wrong_byte(self):
        self.assertEqual(last(ground([120, 256])), [-1])
        self.assertEqual(last(ground([120, 255])), [-1000])


OLD = [ground("10a0\n1010"), door(0, 3, 0, 0), field(3), field(0), walker(0)]


class NewGround(unittest.TestCase):
    def test_doors_are_as_at_first(self):
        self.assertEqual(last(*OLD, walker(1)), [-6])
        self.assertEqual(last(*OLD, ground("10a0"), walker(1)), [1])

    def test_there_are_no_fields(self):
        self.assertEqual(ask(*OLD, ground("1010"), at(0, 0), change(0, 1, 0), field(1))[-3:], [[-4], [0], [0]])

    def test_there_are_no_walkers(self):
        self.assertEqual(ask(*OLD, ground("1010"), change(0, 1, 0), walker(0))[-2:], [[0], [1]])

    def test_six_walkers_more_can_be_made(self):
        six = [walker(cell) for cell in range(6)]
        told = ask(ground(flat(7, 1)), *six, walker(6), ground(flat(7, 1)), *six, walker(6))
        self.assertEqual(told[7:9], [[-5], [7, 1]])
        self.assertEqual(told[9:], [[1], [2], [3], [4], [5], [6], [-5]])

    def test_the_new_cells_are_there_and_the_old_are_gone(self):
        self.assertEqual(ask(*OLD, ground("4050"), within(0, 9), within(2, 9))[-2:], [[2, 0, 1], [-3]])

    def test_a_refused_ground_leaves_the_old_one(self):
        after = [walker(1), at(0, 0), at(1, 3), change(0, 1, 0), way(0, 3), walker(2), door(0, 1, 1, 0)]
        expected = ask(*OLD, *after)[len(OLD):]
        for text in ("", "1x", [256], "10\n", flat(13, 1)):
            told = ask(*OLD, ground(text), *after)
            self.assertEqual(told[len(OLD) + 1:], expected)

    def test_a_refused_first_ground_leaves_none(self):
        self.assertEqual(ask(ground("1"), way(0, 0)), [[-1000], [-2]])


if __name__ == "__main__":
    unittest.main()
