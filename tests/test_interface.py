"""The one list that is handed in and the one that is given back, and that nothing is kept or changed."""

import unittest

import roughways.ground
from helper import at, cell, change, cost, door, field, go, ground, joined, parted, pass_on, plan, prices, proves
from helper import remove, rest, try_plan, walker, way, where, who, within

ALL_CALLS = [
    ground("10a2\n3011"),
    door(0, 4, 4, 3),
    way(0, 3),
    prices(0, 3),
    proves(0, 3, 4, [0, 3, 3, 4]),
    within(0, 3),
    field(3),
    at(0, 0),
    change(2, 1, 0),
    walker(1),
    go(1, 2),
    plan(1),
    pass_on(3),
    where(1),
    try_plan(1, [3, 2, 0]),
    try_plan(1, [2, 0, 1]),
    who(0, 4),
    rest(1),
    remove(1),
    cell(1),
    cost([0, 1, 3, 2]),
    cost([0, 3]),
]

ALL_ANSWERS = [
    2, 2, 2,
    1, 1,
    6, 1, 4, 3, 0, 1, 3,
    7, 1, 4, 4, 0, 3, 3, 4,
    1, 1,
    4, 3, 0, 1, 2,
    1, 0,
    2, 5, 2,
    3, 1, 1, 2,
    1, 1,
    2, 2, 8,
    5, 3, 1, 0, 2, 2,
    1, 3,
    4, 2, 0, 2, 3,
    3, 1, 0, 1,
    1, 0,
    1, 1,
    3, 3, 2, 1,
    1, 0,
    4, 1, 2, 1, 1,
    2, 1, 5,
    1, 0,
]


class Interface(unittest.TestCase):
    def test_each_answer_stands_behind_how_many_numbers_it_has(self):
        self.assertEqual(roughways.ground.answers(joined(ALL_CALLS)), ALL_ANSWERS)

    def test_each_refusal_is_one_number(self):
        calls = joined([way(0, 0), ground("1"), way(-1, 0), ground("10"), way(1, 0), at(0, 0)])
        self.assertEqual(roughways.ground.answers(calls), [1, -2, 1, -1000, 1, -1, 2, 1, 1, 1, -3, 1, -4])

    def test_what_is_handed_in_is_not_changed(self):
        calls = joined(ALL_CALLS)
        before = list(calls)
        roughways.ground.answers(calls)
        self.assertEqual(calls, before)

    def test_each_call_is_there(self):
        self.assertEqual({call[0] for call in ALL_CALLS}, set(range(20)))
        self.assertEqual(len(parted(ALL_ANSWERS)), len(ALL_CALLS))

    def test_a_plan_handed_in_is_not_kept_as_it_was_handed_in(self):
        calls = joined([ground("101010"), walker(0), try_plan(1, [0, 1, 2]), pass_on(1), go(1, 0), plan(1)])
        before = list(calls)
        told = roughways.ground.answers(calls)
        self.assertEqual(calls, before)
        self.assertEqual(told[-4:], [2, 1, 0, 0])

    def test_nothing_is_kept_from_one_time_to_the_next(self):
        first = roughways.ground.answers(joined(ALL_CALLS))
        self.assertEqual(roughways.ground.answers(way(0, 0)), [1, -2])
        self.assertEqual(roughways.ground.answers(joined([ground("10"), where(1), pass_on(1)])), [2, 1, 1, 1, -4, 1, 1])
        self.assertEqual(roughways.ground.answers(joined(ALL_CALLS)), first)

    def test_answers_are_plain_whole_numbers_in_a_plain_list(self):
        told = roughways.ground.answers(joined(ALL_CALLS))
        self.assertIs(type(told), list)
        self.assertEqual({type(number) for number in told}, {int})

    def test_a_hundred_calls(self):
        calls = [ground("10")] + [within(0, 0)] * 99
        self.assertEqual(roughways.ground.answers(joined(calls)), [2, 1, 1] + [2, 1, 0] * 99)

    def test_a_new_object_has_no_ground(self):
        for call in ALL_CALLS[1:]:
            with self.subTest(call=call):
                self.assertEqual(roughways.ground.answers(call), [1, -2])


if __name__ == "__main__":
    unittest.main()
