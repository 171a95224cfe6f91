import unittest

import roughways.ground
from helper import at, change, door, field, ground, joined, prices, proves, walker, way, within

ALL_CALLS = [
    ground("10a2\n3011"),
    door(0, 4, 4, 3),
    way(0, 3),
    prices(0, 3),
    proves(0, 3, 4, [0, 3, 3, 4]),
    within(0, 3),
    field(3),
    at(0, 0),
    change(2, 1, 0),
    walker(1),
]

ALL_ANSWERS = [
    2, 2, 2,
    1, 1,
    6, 1, 4, 3, 0, 1, 3,
    7, 1, 4, 4, 0, 3, 3, 4,
    1, 1,
    4, 3, 0, 1, 2,
    1, 0,
    2, 5, 2,
    3, 1, 1, 2,
    1, 1,
]


class Interface(unittest.TestCase):
    def test_each_answer_stands_behind_how_many_numbers_it_has(self):
        self.assertEqual(roughways.ground.answers(joined(ALL_CALLS)), ALL_ANSWERS)

    def test_each_refusal_is_one_number(self):
        calls = joined([way(0, 0), ground("1"), way(-1, 0), ground("10"), way(1, 0), at(0, 0)])
        self.assertEqual(roughways.ground.answers(calls), [1, -2, 1, -1000, 1, -1, 2, 1, 1, 1, -3, 1, -4])

    def test_what_is_handed_in_is_not_changed(self):
        calls = joined(ALL_CALLS)
        before = list(calls)
        roughways.ground.answers(calls)
        self.assertEqual(calls, before)

    def test_nothing_is_kept_from_one_time_to_the_next(self):
        first = roughways.ground.answers(joined(ALL_CALLS))
        self.assertEqual(roughways.ground.answers(way(0, 0)), [1, -2])
        self.assertEqual(roughways.ground.answers(joined(ALL_CALLS)), first)

    def test_answers_are_plain_whole_numbers_in_a_plain_list(self):
        told = roughways.ground.answers(joined(ALL_CALLS))
        self.assertIs(type(told), list)
        self.assertEqual({type(number) for number in told}, {int})

    def test_a_hundred_calls(self):
        calls = [ground("10")] + [within(0, 0)] * 99
        self.assertEqual(roughways.ground.answers(joined(calls)), [2, 1, 1] + [2, 1, 0] * 99)

    def test_a_new_object_has_no_ground(self):
        for call in ALL_CALLS[1:]:
            with self.subTest(call=call):
                self.assertEqual(roughways.ground.answers(call), [1, -2])


if __name__ == "__main__":
    unittest.main()
