"""Promise 3: index and room."""

import unittest

from tests.helper import (
    BILLION, EXAMPLE, EXAMPLE_TABLE, HUGE, ask, cost, index, index_numbers, last, least, offer, room, run,
    state_behind, table, table_of,
)

FOUR_COLUMNS = table_of(4, [((0, 1, 2, 3), 2), ((9, 8, 7, 6), 3), ((4, 4, 4, 4), 1000000)])
WHOLE = index_numbers([1], [0], (1, 2, 4))


class IndexAnswerTest(unittest.TestCase):

    def test_room_is_one_more_than_the_columns_for_each_row(self):
        self.assertEqual(last(EXAMPLE_TABLE, offer([0])), [0, 20])
        self.assertEqual(last(EXAMPLE_TABLE, offer([0, 1])), [0, 30])
        self.assertEqual(last(EXAMPLE_TABLE, offer([0], [1])), [0, 30])
        self.assertEqual(last(FOUR_COLUMNS, offer([3, 1], [0, 2])), [0, 5000025])
        self.assertEqual(last(FOUR_COLUMNS, offer([2, 3, 0, 1])), [0, 5000025])

    def test_room_with_a_condition(self):
        self.assertEqual(last(EXAMPLE_TABLE, offer([0], [], (0, 1, 1))), [0, 10])
        self.assertEqual(last(EXAMPLE_TABLE, offer([0], [], (1, 5, 5))), [0, 14])
        self.assertEqual(last(EXAMPLE_TABLE, offer([0], [1], (1, 6, 9))), [0, 9])
        self.assertEqual(last(EXAMPLE_TABLE, offer([0, 1], [], (0, 0, 9))), [0, 30])
        self.assertEqual(last(EXAMPLE_TABLE, offer([0, 1], [], (0, 4, 9))), [0, 0])

    def test_room_without_rows(self):
        self.assertEqual(last(table(1, 0), offer([0])), [0, 0])

    def test_upkeep_at_its_ends(self):
        self.assertEqual(run(EXAMPLE_TABLE, offer([0], upkeep=0), cost(0))[1:], [[0, 20], [0, 20]])
        self.assertEqual(run(EXAMPLE_TABLE, offer([0], upkeep=BILLION), cost(0))[1:], [[0, 20], [BILLION, 20]])

    def test_eight_and_a_ninth(self):
        calls = [EXAMPLE_TABLE] + [offer([0], upkeep=k) for k in range(9)]
        self.assertEqual(run(*calls)[1:], [[k, 20] for k in range(8)] + [[-6]])

    def test_stands_behind_the_others(self):
        calls = [EXAMPLE_TABLE] + [offer([0], upkeep=k) for k in range(9)]
        self.assertEqual(run(*calls, *[cost(k) for k in range(9)])[10:], [[k, 20] for k in range(8)] + [[-4]])

    def test_the_same_index_twice(self):
        self.assertEqual(run(EXAMPLE_TABLE, offer([0]), offer([0]))[1:], [[0, 20], [1, 20]])


class IndexRefusalTest(unittest.TestCase):

    def refused(self, *numbers):
        self.assertEqual(last(EXAMPLE_TABLE, index(0, *numbers)), [-1], numbers)

    def test_lists_cut_short_or_too_long(self):
        self.assertEqual(last(EXAMPLE_TABLE, index(0, *WHOLE)), [0, 0])
        for length in range(len(WHOLE)):
            self.refused(*WHOLE[:length])
        for more in (0, 1, -1, HUGE):
            self.refused(*WHOLE, more)
            self.refused(1, 0, 0, 0, more)
        self.refused(*WHOLE, *([0] * (20 - len(WHOLE))))

    def test_each_number_far_out_of_range(self):
        for place in range(len(WHOLE)):
            for number in (-1, 10, HUGE, -HUGE):
                self.refused(*WHOLE[:place], number, *WHOLE[place + 1:])

    def test_no_key(self):
        self.refused(*index_numbers([]))
        self.refused(*index_numbers([], [0]))

    def test_fewer_than_none(self):
        for fewer in (-1, -2, -HUGE):
            self.refused(fewer, 0, 0)
            self.refused(1, 0, fewer, 0)

    def test_columns_that_the_table_has_not(self):
        for column in (-1, 2, 3, HUGE, -HUGE):
            self.refused(*index_numbers([column]))
            self.refused(*index_numbers([0], [column]))
            self.refused(*index_numbers([0], [], (column, 0, 1)))

    def test_columns_twice(self):
        self.refused(*index_numbers([0, 0]))
        self.refused(*index_numbers([0], [0]))
        self.refused(*index_numbers([0, 1], [1]))
        self.refused(*index_numbers([0], [1, 1]))
        self.refused(*index_numbers([0, 1, 0]))
        self.refused(*index_numbers([0], [1, 0]))

    def test_condition(self):
        for low, high in ((-1, 3), (3, 10), (3, 2), (9, 0), (-HUGE, HUGE)):
            self.refused(*index_numbers([0], [], (0, low, high)))
        for sign in (-1, 2, HUGE, -HUGE):
            self.refused(1, 0, 0, sign)
            self.refused(1, 0, 0, sign, 0, 1, 1)

    def test_upkeep(self):
        for upkeep in (-1, BILLION + 1, HUGE, -HUGE):
            self.assertEqual(last(EXAMPLE_TABLE, index(upkeep, *WHOLE)), [-3])

    def test_order_of_refusals(self):
        full = [EXAMPLE_TABLE] + [offer([0])] * 8
        for calls in ([EXAMPLE_TABLE], full):
            self.assertEqual(last(*calls, index(-1)), [-3])
            self.assertEqual(last(*calls, index(BILLION + 1, *WHOLE, 0)), [-3])
            self.assertEqual(last(*calls, index(BILLION, *WHOLE, 0)), [-1])
        self.assertEqual(last(*full, index(-1, *WHOLE)), [-3])
        self.assertEqual(last(*full, index(0, *WHOLE)), [-6])

    def test_changes_nothing(self):
        before = state_behind(*EXAMPLE, room(60))
        for refused in (index(-1, *WHOLE), index(0, *WHOLE, 0), index(0)):
            self.assertEqual(state_behind(*EXAMPLE, room(60), refused), before)
        full = (*EXAMPLE, offer([0]), offer([0]), offer([0]), offer([0]), room(60))
        self.assertEqual(state_behind(*full, index(0, *WHOLE)), state_behind(*full))


class RoomTest(unittest.TestCase):

    def test_answers_the_number(self):
        for number in (0, 1, 60, BILLION):
            self.assertEqual(last(EXAMPLE_TABLE, room(number)), [number])

    def test_out_of_range(self):
        for number in (-1, BILLION + 1, HUGE, -HUGE):
            self.assertEqual(last(EXAMPLE_TABLE, room(number)), [-3])

    def test_the_last_one_holds(self):
        self.assertEqual(last(*EXAMPLE, room(60), room(20), least()), [93, 1, 1, 2])
        self.assertEqual(last(*EXAMPLE, room(60), room(0), least()), [215, 1, 0])
        self.assertEqual(last(*EXAMPLE, room(0), room(BILLION), least()), [27, 1, 1, 1])

    def test_a_refused_one_changes_nothing(self):
        for number in (-1, BILLION + 1):
            self.assertEqual(last(*EXAMPLE, room(20), room(number), least()), [93, 1, 1, 2])

    def test_may_be_told_before_questions_and_indexes(self):
        calls = (EXAMPLE[0], room(60), *EXAMPLE[1:], least())
        self.assertEqual(last(*calls), [27, 1, 1, 1])

    def test_is_0_at_first(self):
        calls = (table_of(1, [((4,), 1), ((5,), 4)]), ask(filters=[(0, 4, 4)]), offer([0]), least())
        self.assertEqual(last(*calls), [10, 1, 0])


if __name__ == "__main__":
    unittest.main()
