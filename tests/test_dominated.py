"""dominated: offers that another one makes needless, idle ones, and those that matter."""

import unittest

from tests.helper import (
    BILLION, EXAMPLE, EXAMPLE_TABLE, ask, dominated, last, offer, room, state_behind, table,
)

# By this one an index costs 10 if it has column 1, else 50; the table costs 20.
WANTS_1 = ask(wanted=[1])


class DominatedTest(unittest.TestCase):

    def told(self, calls, firsts, mattering):
        self.assertEqual(last(EXAMPLE_TABLE, *calls, dominated()), [*firsts, len(mattering), *mattering])


class DominatesTest(DominatedTest):

    def test_without_offers(self):
        self.told([], [], [])
        self.told([ask()] * 6, [], [])
        self.assertEqual(last(table(4, 0), dominated()), [0])

    def test_alike_in_everything(self):
        self.told([ask(), offer([0]), offer([0])], [-1, 0], [0])
        self.told([ask(), *[offer([0], upkeep=9)] * 8], [-1] + [0] * 7, [0])
        # Unlike indexes, yet alike in all costs, in upkeep and in room.
        self.told([ask(), offer([1]), offer([0])], [-1, 0], [0])

    def test_upkeep(self):
        self.told([ask(), offer([0], upkeep=3), offer([0], upkeep=4)], [-1, 0], [0])
        self.told([ask(), offer([0], upkeep=4), offer([0], upkeep=3)], [1, -1], [1])

    def test_room(self):
        self.told([ask(), offer([0]), offer([0], [1])], [-1, 0], [0])
        self.told([ask(), offer([0], [1]), offer([0])], [1, -1], [1])

    def test_costs(self):
        parts = {"filters": [(0, 3, 3)]}
        self.told([ask(**parts), offer([0, 1]), offer([1, 0])], [-1, 0], [0])
        self.told([ask(**parts), offer([1, 0]), offer([0, 1])], [1, -1], [1])

    def test_each_costs_more_by_one(self):
        parts = {"filters": [(0, 3, 3)]}
        # In upkeep and in room; in a cost and in upkeep; in a cost and in room; in a cost each.
        self.told([ask(), offer([0], upkeep=1), offer([0], [1])], [-1, -1], [0, 1])
        self.told([ask(**parts), offer([0, 1], upkeep=1), offer([1, 0])], [-1, -1], [0, 1])
        self.told([WANTS_1, offer([0], [1]), offer([0])], [-1, -2], [0])
        self.told([ask(**parts), ask(filters=[(1, 9, 9)]), offer([0, 1]), offer([1, 0])], [-1, -1], [0, 1])

    def test_every_question_counts(self):
        questions = [ask()] * 5
        self.told([*questions, ask(), offer([0, 1]), offer([1, 0])], [-1, 0], [0])
        self.told([*questions, ask(filters=[(1, 9, 9)]), offer([0, 1]), offer([1, 0])], [1, -1], [1])

    def test_a_question_asked_never(self):
        self.told([ask(), ask(filters=[(1, 9, 9)], asked=0), offer([0, 1]), offer([1, 0])], [-1, 0], [0])

    def test_first_of_several(self):
        offers = [offer([0], upkeep=k) for k in range(4)]
        self.told([ask(), *offers], [-1, 0, 0, 0], [0])
        self.told([ask(), *reversed(offers)], [1, 2, 3, -1], [3])
        self.told([ask(), offers[2], offers[0], offers[1], offers[3]], [1, -1, 1, 0], [1])

    def test_the_room_told_does_not_matter(self):
        for given in (0, 1, 60, BILLION):
            self.assertEqual(last(*EXAMPLE, room(given), dominated()), [1, -1, -1, -2, 2, 1, 2])


class NotServedTest(DominatedTest):

    def test_is_more_than_any_cost(self):
        conditioned = offer([0], [], (0, 0, 9))
        # By offer([0]) it costs 50, more than by the table.
        self.told([WANTS_1, conditioned, offer([0])], [1, -2], [])
        self.told([WANTS_1, offer([0]), conditioned], [-2, 0], [])

    def test_is_more_than_a_cost_of_none(self):
        conditioned = offer([0], [], (0, 0, 9))
        self.told([ask(asked=0), conditioned, offer([0])], [1, -2], [])
        self.told([ask(asked=0), offer([0]), conditioned], [-2, 0], [])

    def test_both_are_alike(self):
        self.told([ask(), offer([0], [], (0, 0, 9)), offer([1], [], (1, 0, 9))], [-2, 0], [])
        self.told([ask(), offer([0], [], (0, 1, 3)), offer([0], [], (0, 1, 2))], [1, -2], [])

    def test_by_less_room(self):
        self.told([ask(), offer([0], [], (0, 1, 1)), offer([0])], [-2, -1], [1])
        self.told([ask(), offer([0]), offer([0], [], (0, 1, 1), upkeep=1)], [-1, -2], [0])

    def test_one_question_each(self):
        questions = [ask(filters=[(0, 1, 1)]), ask(filters=[(0, 2, 2)])]
        self.told([*questions, offer([0], [], (0, 1, 1)), offer([0], [], (0, 2, 2))], [-1, -1], [0, 1])


class IdleTest(DominatedTest):

    def test_saving_and_upkeep(self):
        for upkeep in (0, 1, 9):
            self.told([ask(), offer([0], upkeep=upkeep)], [-1], [0])
        for upkeep in (10, 11, BILLION):
            self.told([ask(), offer([0], upkeep=upkeep)], [-2], [])

    def test_as_often_as_asked(self):
        self.told([ask(asked=1000), offer([0], upkeep=9999)], [-1], [0])
        self.told([ask(asked=1000), offer([0], upkeep=10000)], [-2], [])
        self.told([ask(asked=0), offer([0])], [-2], [])

    def test_all_questions_together(self):
        self.told([*[ask()] * 6, offer([0], upkeep=59)], [-1], [0])
        self.told([*[ask()] * 6, offer([0], upkeep=60)], [-2], [])

    def test_what_costs_more_by_it_takes_nothing_off(self):
        self.told([ask(), WANTS_1, offer([0], upkeep=9)], [-1], [0])
        self.told([ask(), WANTS_1, offer([0], upkeep=10)], [-2], [])

    def test_what_is_not_served_saves_nothing(self):
        questions = [ask(filters=[(0, 3, 3)]), ask(), ask(filters=[(1, 9, 9)])]
        self.told([*questions, offer([0], [], (0, 3, 3), upkeep=18)], [-1], [0])
        self.told([*questions, offer([0], [], (0, 3, 3), upkeep=19)], [-2], [])

    def test_serves_no_question(self):
        self.told([ask(), ask(filters=[(1, 0, 9)]), offer([0], [], (0, 0, 9))], [-2], [])
        self.told([offer([0])], [-2], [])
        self.told([offer([0]), offer([0], [1], upkeep=1), offer([0], [], (0, 9, 9), upkeep=2)], [-2, 0, -2], [])

    def test_other_offers_do_not_make_it_idle(self):
        # Offer 1 saves less beside offer 0 than its upkeep, but not alone.
        self.told([ask(), offer([0], [1]), offer([0], upkeep=5)], [-1, -1], [0, 1])

    def test_idle_and_dominated(self):
        self.told([ask(), offer([0], upkeep=9), offer([0], upkeep=10)], [-1, 0], [0])
        self.told([ask(), offer([0], upkeep=10), offer([0], upkeep=9)], [1, -1], [1])

    def test_idle_ones_dominate_too(self):
        self.told([ask(), offer([0], upkeep=10), offer([0], upkeep=11)], [-2, 0], [])
        self.told([ask(), offer([0], upkeep=11), offer([0], upkeep=10)], [1, -2], [])

    def test_index_without_entries(self):
        calls = [ask(filters=[(0, 8, 8)]), offer([0], [], (0, 7, 9), upkeep=19), offer([0], upkeep=19)]
        self.told(calls, [-1, 0], [0])


class MatterTest(DominatedTest):

    def test_eight(self):
        questions = [ask(filters=[(0, value, value)]) for value in (1, 2, 3)]
        offers = [offer([0], [], (0, value, value), upkeep=upkeep) for upkeep in (0, 19) for value in (1, 2, 3)]
        calls = [*questions, *offers, offer([0]), offer([0], [1])]
        self.told(calls, [-1, -1, -1, 0, 1, 2, -1, 6], [0, 1, 2, 6])

    def test_changes_nothing(self):
        self.assertEqual(state_behind(*EXAMPLE, room(60), dominated()), state_behind(*EXAMPLE, room(60)))


if __name__ == "__main__":
    unittest.main()
