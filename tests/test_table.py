"""Promise 1: table."""

import unittest

from tests.helper import (
    BILLION, EXAMPLE, HUGE, ask, cost, costs, last, least, offer, room, run, state_behind, table, table_numbers,
    table_of,
)

WHOLE = table_numbers(2, [((1, 5), 3), ((1, 7), 2)])


def groups_of(count, width=2):
    return [((k % 10,) * (width - 1) + (k // 10,), k + 1) for k in range(count)]


class TableAnswerTest(unittest.TestCase):

    def test_one_and_four_columns(self):
        self.assertEqual(last(table_of(1, [((0,), 5), ((9,), 6)])), [11])
        self.assertEqual(last(table_of(4, [((0, 9, 0, 9), 5), ((0, 9, 0, 8), 6)])), [11])

    def test_no_group(self):
        for width in (1, 2, 3, 4):
            self.assertEqual(last(table(width, 0)), [0])

    def test_twelve_groups(self):
        self.assertEqual(last(table_of(2, groups_of(12))), [78])
        self.assertEqual(last(table_of(4, groups_of(12, 4))), [78])

    def test_fewest_and_most_rows(self):
        self.assertEqual(last(table_of(1, [((3,), 1)])), [1])
        self.assertEqual(last(table_of(1, [((3,), 1000000)])), [1000000])
        most = [(values, 1000000) for values, rows in groups_of(12)]
        self.assertEqual(last(table_of(2, most)), [12000000])

    def test_every_value(self):
        self.assertEqual(last(table_of(1, [((value,), 1) for value in range(10)])), [10])


class TableRefusalTest(unittest.TestCase):

    def refused(self, *numbers):
        self.assertEqual(run(table(*numbers)), [[-1]], numbers)

    def test_lists_cut_short_or_too_long(self):
        self.assertEqual(last(table(*WHOLE)), [5])
        for length in range(len(WHOLE)):
            self.refused(*WHOLE[:length])
        for more in (0, 1, -1, HUGE):
            self.refused(*WHOLE, more)
        self.refused(*WHOLE, *([0] * (80 - len(WHOLE))))
        self.refused(1, 0, 0)

    def test_a_group_more_or_less_than_told(self):
        self.refused(2, 1, *WHOLE[2:])
        self.refused(2, 3, *WHOLE[2:])

    def test_columns_out_of_range(self):
        for width in (0, -1, 5, BILLION, HUGE, -HUGE):
            self.refused(width, 0)
        self.refused(5, 1, 0, 0, 0, 0, 0, 1)
        self.refused(0, 1, 1)

    def test_groups_out_of_range(self):
        for count in (-1, BILLION, HUGE, -HUGE):
            self.refused(2, count)
            self.refused(2, count, *WHOLE[2:])
        self.refused(*table_numbers(2, groups_of(13)))

    def test_values_out_of_range(self):
        for value in (-1, 10, HUGE, -HUGE):
            self.refused(2, 1, value, 0, 1)
            self.refused(2, 1, 0, value, 1)
            self.refused(2, 2, 0, 0, 1, 0, value, 1)

    def test_rows_out_of_range(self):
        for rows in (0, -1, 1000001, HUGE, -HUGE):
            self.refused(2, 1, 0, 0, rows)
            self.refused(2, 2, 0, 0, 1, 0, 1, rows)

    def test_groups_alike(self):
        self.refused(*table_numbers(2, [((1, 5), 3), ((1, 5), 3)]))
        self.refused(*table_numbers(2, [((1, 5), 3), ((1, 6), 3), ((1, 5), 4)]))
        self.refused(*table_numbers(1, [((0,), 3), ((1,), 3), ((1,), 4)]))
        self.assertEqual(last(table_of(2, [((1, 5), 3), ((5, 1), 3)])), [6])


class TableChangeTest(unittest.TestCase):

    def test_a_new_table_leaves_nothing_of_the_old_one(self):
        calls = (*EXAMPLE, room(60), table_of(1, [((4,), 7)]))
        self.assertEqual(last(*calls, costs(0)), [-2])
        self.assertEqual(last(*calls, cost(0)), [-4])
        self.assertEqual(last(*calls, cost()), [0, 0])
        self.assertEqual(run(*calls, ask(), offer([0]))[-2:], [[0], [0, 14]])

    def test_a_new_table_leaves_the_room_0(self):
        again = (ask(filters=[(0, 4, 4)]), offer([0]), least())
        table_of_five = table_of(1, [((4,), 1), ((5,), 4)])
        self.assertEqual(last(table_of_five, *again), [10, 1, 0])
        self.assertEqual(last(table_of_five, room(BILLION), *again), [1, 1, 1, 0])
        self.assertEqual(last(table_of_five, room(BILLION), table_of_five, *again), [10, 1, 0])

    def test_the_same_table_again_counts_as_new(self):
        self.assertEqual(last(*EXAMPLE, EXAMPLE[0], costs(0)), [-2])

    def test_the_new_table_is_the_table(self):
        calls = (*EXAMPLE, table_of(3, [((4, 0, 0), 7)]), ask(filters=[(2, 0, 0)], asked=2))
        self.assertEqual(run(*calls, costs(0))[-2:], [[0], [28, 0]])

    def test_a_refused_table_changes_nothing(self):
        before = state_behind(*EXAMPLE, room(60))
        for refused in (table(), table(5, 0), table(*WHOLE, 0), table(2, 2, 1, 1, 1, 1, 1, 1)):
            self.assertEqual(state_behind(*EXAMPLE, room(60), refused), before)

    def test_a_refused_first_table_is_none(self):
        self.assertEqual(run(table(0, 0), least()), [[-1], [-8]])


if __name__ == "__main__":
    unittest.main()
