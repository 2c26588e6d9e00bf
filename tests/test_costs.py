"""Promise 4: costs, and what the words say of what a question costs."""

import unittest

from tests.helper import (
    EXAMPLE, EXAMPLE_TABLE, HUGE, ask, cost, costs, last, offer, room, state_behind, table, table_of,
)

THREE_COLUMNS = table_of(3, [((1, 1, 1), 1), ((1, 2, 1), 2), ((1, 2, 2), 4), ((1, 3, 1), 8), ((2, 2, 1), 16)])


class CostsTest(unittest.TestCase):

    def by_table(self, told, **parts):
        return last(told, ask(**parts), costs(0))[0]

    def by(self, indexed, **parts):
        """What one asking costs by an index: its keys, included columns and condition."""
        answer = last(THREE_COLUMNS, ask(**parts), offer(*indexed), costs(0))
        self.assertEqual(answer[1], 1)
        self.assertEqual(len(answer), 3)
        return answer[2]


class TableCostTest(CostsTest):

    def test_two_for_each_row(self):
        self.assertEqual(self.by_table(THREE_COLUMNS), 62)
        self.assertEqual(self.by_table(THREE_COLUMNS, filters=[(0, 5, 6)]), 62)
        self.assertEqual(self.by_table(table(1, 0)), 0)

    def test_three_for_each_row_sorted(self):
        self.assertEqual(self.by_table(THREE_COLUMNS, order=[1]), 62 + 93)
        self.assertEqual(self.by_table(THREE_COLUMNS, order=[1], filters=[(1, 3, 4)]), 62 + 24)
        self.assertEqual(self.by_table(THREE_COLUMNS, order=[1], filters=[(1, 2, 3), (2, 1, 1)]), 62 + 78)
        self.assertEqual(self.by_table(THREE_COLUMNS, order=[1], filters=[(0, 5, 6)]), 62)

    def test_order_of_columns_with_equal_filters_is_free(self):
        self.assertEqual(self.by_table(THREE_COLUMNS, order=[1], filters=[(1, 2, 2)]), 62)
        self.assertEqual(self.by_table(THREE_COLUMNS, order=[1, 2], filters=[(1, 2, 2), (2, 1, 1)]), 62)
        self.assertEqual(self.by_table(THREE_COLUMNS, order=[1, 2], filters=[(1, 2, 2)]), 62 + 66)

    def test_limit_ends_a_free_order(self):
        third = [(1, 3, 3)]
        self.assertEqual(self.by_table(THREE_COLUMNS, limit=1), 2)
        self.assertEqual(self.by_table(THREE_COLUMNS, limit=7), 14)
        self.assertEqual(self.by_table(THREE_COLUMNS, filters=third, limit=1), 16)
        self.assertEqual(self.by_table(THREE_COLUMNS, filters=third, limit=8), 30)
        self.assertEqual(self.by_table(THREE_COLUMNS, filters=third, limit=9), 62)
        self.assertEqual(self.by_table(THREE_COLUMNS, filters=third, limit=0), 62)
        self.assertEqual(self.by_table(THREE_COLUMNS, filters=third, order=[1], limit=1), 16)

    def test_limit_goes_on_behind_rows_not_found(self):
        self.assertEqual(self.by_table(THREE_COLUMNS, filters=[(2, 1, 1)], limit=3), 6)
        self.assertEqual(self.by_table(THREE_COLUMNS, filters=[(2, 1, 1)], limit=4), 16)

    def test_limit_does_not_end_an_order_to_be_sorted(self):
        self.assertEqual(self.by_table(THREE_COLUMNS, order=[1], limit=1), 62 + 93)
        self.assertEqual(self.by_table(THREE_COLUMNS, order=[1, 0], filters=[(1, 3, 3)], limit=1), 62 + 24)

    def test_backwards_does_not_turn_the_table(self):
        self.assertEqual(self.by_table(THREE_COLUMNS, filters=[(1, 3, 3)], order=[1], backwards=1, limit=1), 16)
        self.assertEqual(self.by_table(THREE_COLUMNS, backwards=1, limit=3), 6)

    def test_limit_at_its_highest(self):
        two = table_of(1, [((0,), 1000000), ((1,), 1000000)])
        self.assertEqual(self.by_table(two, limit=1000000), 2000000)
        self.assertEqual(self.by_table(two, limit=999999), 1999998)
        self.assertEqual(self.by_table(two, filters=[(0, 1, 1)], limit=1000000), 4000000)

    def test_as_often_as_asked(self):
        self.assertEqual(self.by_table(THREE_COLUMNS, asked=0), 0)
        self.assertEqual(self.by_table(THREE_COLUMNS, asked=7), 434)
        self.assertEqual(self.by_table(THREE_COLUMNS, asked=1000), 62000)

    def test_largest_of_all(self):
        most = table_of(2, [((k % 10, k // 10), 1000000) for k in range(12)])
        self.assertEqual(self.by_table(most, order=[0], asked=1000), 60 * 10 ** 9)
        answer = last(most, ask(order=[0], wanted=[1], asked=1000), offer([1]), costs(0))
        self.assertEqual(answer, [60 * 10 ** 9, 1, 96 * 10 ** 9])


class ServesTest(CostsTest):

    def test_filter_within_the_condition(self):
        indexed = ([0], [], (0, 1, 2))
        for low, high in ((1, 2), (1, 1), (2, 2)):
            self.assertGreater(self.by(indexed, filters=[(0, low, high)]), 0)

    def test_filter_beyond_the_condition(self):
        indexed = ([0], [], (0, 1, 2))
        for low, high in ((0, 2), (1, 3), (0, 0), (3, 9), (0, 9)):
            self.assertEqual(self.by(indexed, filters=[(0, low, high)]), -1)

    def test_no_filter_of_the_conditions_column(self):
        self.assertEqual(self.by(([0], [], (0, 1, 2))), -1)
        self.assertEqual(self.by(([0], [], (0, 1, 2)), filters=[(1, 1, 2)]), -1)
        self.assertEqual(self.by(([0], [], (1, 0, 9)), filters=[(0, 1, 1)]), -1)

    def test_asked_never_is_still_not_served(self):
        self.assertEqual(self.by(([0], [], (0, 1, 2)), asked=0), -1)
        self.assertEqual(self.by(([0], [], (0, 1, 2)), filters=[(0, 1, 1)], asked=0), 0)

    def test_entries_are_the_rows_that_pass_the_condition(self):
        first = [(0, 1, 1)]
        self.assertEqual(self.by(([1], [0], (0, 1, 1)), filters=first), 15)
        self.assertEqual(self.by(([1], [0], (0, 1, 2)), filters=first), 31)
        self.assertEqual(self.by(([1], [0], (0, 0, 1)), filters=first), 15)

    def test_the_conditions_column_is_not_its_own(self):
        self.assertEqual(self.by(([1], [], (0, 1, 1)), filters=[(0, 1, 1)]), 15 + 60)
        self.assertEqual(self.by(([1], [], (0, 1, 2)), filters=[(0, 1, 1)]), 31 + 124)


class IndexCostTest(CostsTest):

    FILTERS = [(0, 1, 1), (1, 2, 3), (2, 1, 1)]

    def test_range(self):
        self.assertEqual(self.by(([0, 1, 2],), filters=self.FILTERS), 14)
        self.assertEqual(self.by(([0, 2, 1],), filters=self.FILTERS), 10)
        self.assertEqual(self.by(([2, 0, 1],), filters=self.FILTERS), 10)
        self.assertEqual(self.by(([2, 1, 0],), filters=self.FILTERS), 26)
        self.assertEqual(self.by(([1, 0, 2],), filters=self.FILTERS), 30)
        self.assertEqual(self.by(([0], [1, 2]), filters=self.FILTERS), 15)

    def test_range_ends_with_a_key_that_has_no_filter(self):
        self.assertEqual(self.by(([0, 1],), filters=[(0, 1, 1)]), 15)
        self.assertEqual(self.by(([1, 0],), filters=[(0, 1, 1)]), 31)
        self.assertEqual(self.by(([0, 1, 2],), filters=[(0, 1, 1), (2, 1, 1)]), 15)

    def test_range_of_equal_filters_alone(self):
        self.assertEqual(self.by(([0, 1, 2],), filters=[(0, 1, 1), (1, 2, 2), (2, 2, 2)]), 4)

    def test_range_of_no_entry(self):
        self.assertEqual(self.by(([0],), filters=[(0, 7, 8)], order=[1], wanted=[2]), 0)

    def test_look_ups_of_those_that_pass_its_own_filters(self):
        self.assertEqual(self.by(([0, 1],), filters=self.FILTERS), 14 + 56)
        self.assertEqual(self.by(([1], [0]), filters=self.FILTERS), 30 + 56)
        self.assertEqual(self.by(([0],), filters=self.FILTERS), 15 + 60)
        self.assertEqual(self.by(([0], [2]), filters=self.FILTERS), 15 + 44)

    def test_covers_all_that_is_needed(self):
        self.assertEqual(self.by(([0],)), 31)
        self.assertEqual(self.by(([0],), wanted=[1]), 31 + 124)
        self.assertEqual(self.by(([0], [1]), wanted=[1]), 31)
        self.assertEqual(self.by(([0],), filters=[(1, 0, 9)]), 31 + 124)
        self.assertEqual(self.by(([0], [1]), filters=[(1, 0, 9)]), 31)
        self.assertEqual(self.by(([0],), order=[1]), 31 + 124 + 93)
        self.assertEqual(self.by(([0], [1]), order=[1]), 31 + 93)
        self.assertEqual(self.by(([0], [1, 2]), filters=[(2, 0, 9)], order=[0], wanted=[1]), 31)
        self.assertEqual(self.by(([0], [2]), filters=[(2, 0, 9)], order=[0], wanted=[1]), 31 + 124)

    def test_order_that_is_the_beginning_of_the_keys(self):
        self.assertEqual(self.by(([0, 1, 2],), order=[0]), 31)
        self.assertEqual(self.by(([0, 1, 2],), order=[0, 1]), 31)
        self.assertEqual(self.by(([0, 1, 2],), order=[0, 1, 2]), 31)

    def test_order_that_is_not_the_beginning_of_the_keys(self):
        for order in ([1], [2], [1, 0], [0, 2], [0, 2, 1]):
            self.assertEqual(self.by(([0, 1, 2],), order=order), 31 + 93)
        self.assertEqual(self.by(([0], [1]), order=[0, 1]), 31 + 93)

    def test_order_without_columns_with_equal_filters(self):
        equal = [(1, 2, 2)]
        self.assertEqual(self.by(([0, 1, 2],), filters=equal, order=[0, 2]), 31)
        self.assertEqual(self.by(([0, 2], [1]), filters=equal, order=[0, 1, 2]), 31)
        self.assertEqual(self.by(([0, 1, 2],), filters=equal, order=[1, 0]), 31)
        self.assertEqual(self.by(([1, 0],), filters=equal, order=[0]), 22)
        self.assertEqual(self.by(([1, 0],), filters=[(1, 2, 3)], order=[0]), 30 + 90)
        self.assertEqual(self.by(([0], [1]), filters=equal, order=[1]), 31)

    def test_rows_sorted_are_those_found(self):
        self.assertEqual(self.by(([0, 1, 2],), filters=self.FILTERS, order=[2, 1, 0]), 14)
        self.assertEqual(self.by(([0], [1, 2]), filters=self.FILTERS, order=[1]), 15 + 30)
        self.assertEqual(self.by(([0],), filters=self.FILTERS, order=[1]), 15 + 60 + 30)

    def test_limit_does_not_end_an_order_to_be_sorted(self):
        self.assertEqual(self.by(([0], [1, 2]), filters=self.FILTERS, order=[1], limit=1), 15 + 30)

    def test_limit_ends_a_free_order(self):
        parts = {"filters": [(2, 1, 1)], "order": [1]}
        for limit, touched in ((0, 31), (1, 1), (3, 3), (4, 4), (19, 19), (20, 24), (27, 31), (28, 31), (1000000, 31)):
            self.assertEqual(self.by(([1, 2],), limit=limit, **parts), touched, limit)

    def test_limit_backwards(self):
        parts = {"filters": [(2, 1, 1)], "order": [1], "backwards": 1}
        for limit, touched in ((0, 31), (1, 1), (8, 8), (9, 13), (24, 28), (25, 29), (27, 31), (28, 31)):
            self.assertEqual(self.by(([1, 2],), limit=limit, **parts), touched, limit)

    def test_limit_with_look_ups(self):
        parts = {"filters": [(2, 1, 1)], "order": [1], "wanted": [0]}
        self.assertEqual(self.by(([1, 2],), limit=9, backwards=1, **parts), 13 + 36)
        self.assertEqual(self.by(([1, 2],), limit=20, **parts), 24 + 80)
        self.assertEqual(self.by(([1],), limit=4, **parts), 8 + 32)

    def test_alike_in_all_keys_as_they_lie(self):
        parts = {"filters": [(0, 2, 2)], "order": [1], "limit": 1}
        self.assertEqual(self.by(([1],), **parts), 8 + 32)
        self.assertEqual(self.by(([1],), backwards=1, **parts), 9 + 36)

    def test_touched_by_the_keys_though_nothing_is_ordered(self):
        parts = {"filters": [(1, 3, 3)], "limit": 1}
        self.assertEqual(self.by(([0, 1],), **parts), 8)
        self.assertEqual(self.by(([2, 0], [1]), **parts), 4)
        self.assertEqual(self.by(([0, 1],), backwards=1, **parts), 17)

    def test_as_often_as_asked(self):
        for asked in (0, 1, 7, 1000):
            self.assertEqual(self.by(([0],), wanted=[1], asked=asked), 155 * asked)


class CostsAnswerTest(unittest.TestCase):

    def test_without_offers(self):
        self.assertEqual(last(EXAMPLE_TABLE, ask(), costs(0)), [20, 0])

    def test_for_each_offer_in_order(self):
        offers = [offer([0], [1]), offer([0], [], (0, 1, 1)), offer([0])] * 2
        self.assertEqual(last(EXAMPLE_TABLE, ask(wanted=[1]), *offers, costs(0)), [20, 6, 10, -1, 50, 10, -1, 50])

    def test_upkeep_is_not_in_it(self):
        self.assertEqual(last(EXAMPLE_TABLE, ask(), offer([0], upkeep=1000), costs(0)), [20, 1, 10])

    def test_no_such_question(self):
        for number in (-1, 2, 6, HUGE, -HUGE):
            self.assertEqual(last(*EXAMPLE, costs(number)), [-2])
        self.assertEqual(last(EXAMPLE_TABLE, costs(0)), [-2])

    def test_changes_nothing(self):
        before = state_behind(*EXAMPLE, room(60))
        self.assertEqual(state_behind(*EXAMPLE, room(60), costs(0), costs(2), cost(4)), before)


if __name__ == "__main__":
    unittest.main()
