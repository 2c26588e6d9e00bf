"""Promise 4: cost; and least."""

import unittest

from tests.helper import (
    BILLION, EXAMPLE, EXAMPLE_TABLE, HUGE, ask, cost, last, least, offer, room, state_behind, table, table_of,
)


class CostTest(unittest.TestCase):

    def test_the_empty_set(self):
        self.assertEqual(last(EXAMPLE_TABLE, cost()), [0, 0])
        self.assertEqual(last(EXAMPLE_TABLE, ask(), ask(asked=3), offer([0]), cost()), [80, 0, 0, 0])

    def test_upkeeps_and_rooms_of_all_its_offers(self):
        offers = [offer([0], upkeep=1), offer([0], [1], upkeep=20), offer([1], [], (0, 1, 1), upkeep=300)]
        for chosen, told in (((0,), [1, 20]), ((1,), [20, 30]), ((0, 2), [301, 30]), ((0, 1, 2), [321, 60])):
            self.assertEqual(last(EXAMPLE_TABLE, *offers, cost(*chosen)), told)

    def test_largest_upkeeps(self):
        offers = [offer([0], upkeep=BILLION)] * 8
        self.assertEqual(last(EXAMPLE_TABLE, *offers, cost(*range(8))), [8 * BILLION, 160])

    def test_by_what(self):
        questions = [ask(), ask(filters=[(1, 9, 9)]), ask(wanted=[0, 1])]
        offers = [offer([0]), offer([1]), offer([1], [0])]
        calls = (EXAMPLE_TABLE, *questions, *offers)
        self.assertEqual(last(*calls, cost(0)), [50, 20, 1, 0, 0])
        self.assertEqual(last(*calls, cost(1)), [31, 20, 2, 2, 0])
        self.assertEqual(last(*calls, cost(0, 1)), [31, 40, 1, 2, 0])
        self.assertEqual(last(*calls, cost(0, 1, 2)), [21, 70, 1, 2, 3])
        self.assertEqual(last(*calls, cost(1, 2)), [21, 50, 2, 2, 3])

    def test_of_those_that_cost_the_same_the_whole_table(self):
        self.assertEqual(last(EXAMPLE_TABLE, ask(asked=0), offer([0]), cost(0)), [0, 20, 0])
        # The table's first row is found; by the index it is the second entry, and an entry costs half as much.
        calls = (table_of(2, [((0, 1), 1), ((0, 0), 1)]), ask(filters=[(0, 0, 5), (1, 1, 1)], limit=1))
        self.assertEqual(last(*calls, offer([0, 1]), cost(0)), [2, 6, 0])

    def test_of_those_that_cost_the_same_the_first_one(self):
        offers = [offer([0], [], (0, 2, 2)), offer([1]), offer([0]), offer([0])]
        self.assertEqual(last(EXAMPLE_TABLE, ask(), *offers, cost(0, 1, 2, 3)), [10, 68, 2])
        self.assertEqual(last(EXAMPLE_TABLE, ask(), *offers, cost(2, 3)), [10, 40, 3])

    def test_not_served(self):
        self.assertEqual(last(EXAMPLE_TABLE, ask(), offer([0], [], (0, 1, 1), upkeep=5), cost(0)), [25, 10, 0])
        self.assertEqual(last(EXAMPLE_TABLE, ask(asked=0), offer([0], [], (0, 1, 1)), cost(0)), [0, 10, 0])

    def test_does_not_ask_for_the_room(self):
        self.assertEqual(last(EXAMPLE_TABLE, ask(), offer([0]), room(0), cost(0)), [10, 20, 1])

    def test_refused(self):
        calls = (*EXAMPLE, room(60))
        wrong = (
            (4,), (-1,), (HUGE,), (-HUGE,), (0, 0), (1, 0), (0, 2, 1), (0, 1, 1), (0, 1, 2, 3, 4), (-1, 0), (3, HUGE),
            (0, 1, 2, 3, 3), (0, -HUGE), (0,) * 10, tuple(range(10)),
        )
        for chosen in wrong:
            self.assertEqual(last(*calls, cost(*chosen)), [-4], chosen)
        self.assertEqual(last(EXAMPLE_TABLE, cost(0)), [-4])

    def test_changes_nothing(self):
        before = state_behind(*EXAMPLE, room(60))
        self.assertEqual(state_behind(*EXAMPLE, room(60), cost(1, 2), cost(2, 1), least()), before)


class LeastTest(unittest.TestCase):

    def test_without_questions_and_offers(self):
        self.assertEqual(last(EXAMPLE_TABLE, least()), [0, 1, 0])
        self.assertEqual(last(EXAMPLE_TABLE, room(BILLION), least()), [0, 1, 0])
        self.assertEqual(last(EXAMPLE_TABLE, ask(), least()), [20, 1, 0])

    def test_room_is_enough_to_the_very_number(self):
        calls = (EXAMPLE_TABLE, ask(), offer([0]))
        self.assertEqual(last(*calls, room(19), least()), [20, 1, 0])
        self.assertEqual(last(*calls, room(20), least()), [10, 1, 1, 0])

    def test_rooms_count_together(self):
        calls = (EXAMPLE_TABLE, ask(filters=[(0, 3, 3)]), ask(filters=[(1, 7, 7)]), offer([0]), offer([1]))
        self.assertEqual(last(*calls, room(39), least()), [21, 1, 1, 0])
        self.assertEqual(last(*calls, room(40), least()), [3, 1, 2, 0, 1])

    def test_upkeep_counts(self):
        for upkeep, told in ((9, [19, 1, 1, 0]), (10, [20, 2, 0]), (11, [20, 1, 0])):
            self.assertEqual(last(EXAMPLE_TABLE, ask(), offer([0], upkeep=upkeep), room(20), least()), told)

    def test_an_index_without_rows_needs_no_room(self):
        calls = (EXAMPLE_TABLE, ask(filters=[(0, 8, 8)]), offer([0], [], (0, 7, 9)))
        self.assertEqual(last(*calls, least()), [0, 1, 1, 0])

    def test_all_sets_cost_the_same(self):
        calls = [table(1, 0), ask()] + [offer([0])] * 8
        self.assertEqual(last(*calls, least()), [0, 256, 0])
        calls = [EXAMPLE_TABLE] + [offer([0])] * 8
        for given, many in ((0, 1), (20, 9), (40, 37), (60, 93), (140, 255), (159, 255), (160, 256), (BILLION, 256)):
            self.assertEqual(last(*calls, room(given), least()), [0, many, 0])

    def test_fewer_offers_come_first(self):
        questions = [ask(filters=[(0, 3, 3)]), ask(filters=[(1, 9, 9)])]
        # Offer 2 alone costs as much as the offers 0 and 1 together, or as any of these with it.
        offers = [offer([0]), offer([1], upkeep=9), offer([0], [1])]
        self.assertEqual(last(EXAMPLE_TABLE, *questions, *offers, room(BILLION), least()), [11, 5, 1, 2])

    def test_then_by_their_numbers(self):
        questions = [ask(filters=[(0, 3, 3)]), ask(filters=[(1, 9, 9)])]
        offers = [offer([0], [1]), offer([0]), offer([1], [0]), offer([1])]
        calls = (EXAMPLE_TABLE, *questions, *offers)
        # Within 50 are 0 with 3, 1 with 2, and 1 with 3, but not 0 with 2.
        self.assertEqual(last(*calls, room(50), least()), [2, 3, 2, 0, 3])
        self.assertEqual(last(*calls, room(40), least()), [2, 1, 2, 1, 3])
        self.assertEqual(last(*calls, room(60), least()), [2, 4, 2, 0, 2])
        self.assertEqual(last(*calls, room(BILLION), least()), [2, 9, 2, 0, 2])

    def test_the_whole_of_eight(self):
        cells = [((value,), 1) for value in range(8)]
        questions = [ask(filters=[(0, low, low + 1)], asked=10) for low in (0, 2, 4, 6)]
        offers = [offer([0], [], (0, low, low + 1), upkeep=k) for k, low in enumerate((0, 2, 4, 6) * 2)]
        calls = (table_of(1, cells), *questions, *offers)
        self.assertEqual(last(*calls, room(BILLION), least()), [86, 1, 4, 0, 1, 2, 3])
        self.assertEqual(last(*calls, room(15), least()), [223, 1, 3, 0, 1, 2])


if __name__ == "__main__":
    unittest.main()
