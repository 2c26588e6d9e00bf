"""Promise 2: all calls without a table; question."""

import unittest

from tests.helper import (
    EXAMPLE, EXAMPLE_TABLE, HUGE, OTHER_CALLS, ask, costs, index, last, offer, question, question_numbers, room, run,
    state_behind, table, table_of,
)

FOUR_COLUMNS = table_of(4, [((0, 1, 2, 3), 2), ((9, 8, 7, 6), 3)])
WHOLE = question_numbers([(0, 1, 4), (1, 2, 2)], (1, 0), 1, (0, 1), 7, 3)


class NoTableTest(unittest.TestCase):

    def test_every_other_call(self):
        for name, call in OTHER_CALLS.items():
            self.assertEqual(run(call), [[-8]], name)

    def test_all_in_a_row_and_then_a_table(self):
        calls = list(OTHER_CALLS.values())
        self.assertEqual(run(*calls, table(1, 0), ask()), [[-8]] * 12 + [[0], [0]])

    def test_behind_a_refused_table(self):
        for name, call in OTHER_CALLS.items():
            self.assertEqual(run(table(), call), [[-1], [-8]], name)

    def test_comes_before_every_other_refusal(self):
        wrong = (
            question(), index(-1), index(-1, 1, 0, 0, 0), index(0), room(-1), room(HUGE), costs(-1), costs(HUGE),
            [5, 1, -1], [7, -1], [8, -1], [8, 9], [11, -1, 0], [11, 0, 0],
        )
        for call in wrong:
            self.assertEqual(run(call), [[-8]], call)

    def test_keeps_nothing_of_what_was_refused(self):
        calls = (ask(), offer([0]), room(1000), *EXAMPLE)
        self.assertEqual(state_behind(*calls), state_behind(*EXAMPLE))


class QuestionAnswerTest(unittest.TestCase):

    def taken(self, calls, *numbers):
        self.assertEqual(last(*calls, question(*numbers)), [0], numbers)

    def test_nothing_asked_for(self):
        self.taken([EXAMPLE_TABLE], 0, 0, 0, 0, 0, 0)
        self.taken([table(1, 0)], 0, 0, 0, 0, 0, 0)

    def test_everything_asked_for(self):
        filters = [(3, 0, 9), (2, 9, 9), (1, 0, 0), (0, 4, 5)]
        self.taken([FOUR_COLUMNS], *question_numbers(filters, (3, 1, 0, 2), 1, (2, 0, 1, 3), 1000000, 1000))

    def test_limit_and_asked_at_their_ends(self):
        for limit in (0, 1, 1000000):
            for asked in (0, 1, 1000):
                self.taken([EXAMPLE_TABLE], *question_numbers(limit=limit, asked=asked))

    def test_filters_at_their_ends(self):
        for low, high in ((0, 0), (0, 9), (9, 9), (4, 5)):
            self.taken([EXAMPLE_TABLE], *question_numbers([(1, low, high)]))

    def test_six_and_a_seventh(self):
        calls = [FOUR_COLUMNS] + [ask(asked=k) for k in range(7)]
        self.assertEqual(run(*calls), [[5], [0], [1], [2], [3], [4], [5], [-6]])

    def test_stands_behind_the_others(self):
        calls = [FOUR_COLUMNS] + [ask(asked=k) for k in range(7)]
        self.assertEqual(run(*calls, *[costs(k) for k in range(7)])[8:], [[10 * k, 0] for k in range(6)] + [[-2]])


class QuestionRefusalTest(unittest.TestCase):

    def refused(self, *numbers):
        self.assertEqual(last(EXAMPLE_TABLE, question(*numbers)), [-1], numbers)

    def test_lists_cut_short_or_too_long(self):
        self.assertEqual(last(EXAMPLE_TABLE, question(*WHOLE)), [0])
        for length in range(len(WHOLE)):
            self.refused(*WHOLE[:length])
        for more in (0, 1, -1, HUGE):
            self.refused(*WHOLE, more)
        self.refused(*WHOLE, *([0] * (40 - len(WHOLE))))

    def test_each_number_far_out_of_range(self):
        for place in range(len(WHOLE)):
            for number in (-1, -HUGE, HUGE, 1000001):
                self.refused(*WHOLE[:place], number, *WHOLE[place + 1:])

    def test_more_of_columns_than_there_are(self):
        self.refused(*question_numbers([(0, 0, 1), (1, 0, 1), (0, 0, 1)]))
        self.refused(*question_numbers([(0, 0, 1), (1, 0, 1), (2, 0, 1)]))
        self.refused(*question_numbers(order=(0, 1, 2)))
        self.refused(*question_numbers(wanted=(0, 1, 2)))

    def test_fewer_than_none(self):
        for fewer in (-1, -2, -HUGE):
            self.refused(fewer, 0, 0, 0, 0, 1)
            self.refused(0, fewer, 0, 0, 0, 1)
            self.refused(0, 0, 0, fewer, 0, 1)

    def test_columns_that_the_table_has_not(self):
        for column in (-1, 2, 3, HUGE, -HUGE):
            self.refused(*question_numbers([(column, 0, 1)]))
            self.refused(*question_numbers(order=(column,)))
            self.refused(*question_numbers(wanted=(column,)))

    def test_columns_twice(self):
        self.refused(*question_numbers([(0, 0, 1), (0, 0, 1)]))
        self.refused(*question_numbers([(1, 0, 1), (1, 2, 3)]))
        self.refused(*question_numbers(order=(1, 1)))
        self.refused(*question_numbers(wanted=(0, 0)))

    def test_filter_values(self):
        for low, high in ((-1, 3), (3, 10), (10, 10), (-1, -1), (3, 2), (9, 0), (1, 0), (-HUGE, HUGE)):
            self.refused(*question_numbers([(0, low, high)]))

    def test_backwards(self):
        for backwards in (-1, 2, HUGE, -HUGE):
            self.refused(*question_numbers(backwards=backwards))

    def test_limit_and_asked(self):
        for limit in (-1, 1000001, HUGE, -HUGE):
            self.refused(*question_numbers(limit=limit))
        for asked in (-1, 1001, HUGE, -HUGE):
            self.refused(*question_numbers(asked=asked))

    def test_not_whole_comes_before_too_many(self):
        calls = [EXAMPLE_TABLE] + [ask()] * 6
        self.assertEqual(last(*calls, question(*WHOLE)), [-6])
        self.assertEqual(last(*calls, question(*WHOLE, 0)), [-1])
        self.assertEqual(last(*calls, question()), [-1])

    def test_changes_nothing(self):
        before = state_behind(*EXAMPLE, room(60))
        self.assertEqual(state_behind(*EXAMPLE, room(60), question(*WHOLE, 0), question()), before)
        full = (*EXAMPLE, ask(), ask(), ask(), ask(), room(60))
        self.assertEqual(state_behind(*full, question(*WHOLE)), state_behind(*full))


if __name__ == "__main__":
    unittest.main()
