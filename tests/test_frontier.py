"""frontier: the rooms at which the least cost gets less."""

import unittest

from tests.helper import (
    BILLION, EXAMPLE, EXAMPLE_TABLE, ask, frontier, last, least, offer, room, run, state_behind, table, table_of,
)


class FrontierTest(unittest.TestCase):

    def told(self, calls, *pairs):
        numbers = [number for pair in pairs for number in pair]
        for given in (0, 30, BILLION):
            self.assertEqual(last(*calls, room(given), frontier()), [len(pairs), *numbers])
        for needed, cost in pairs:
            self.assertEqual(last(*calls, room(needed), least())[0], cost)
        for (needed, cost), (lesser, more) in zip(pairs[1:], pairs):
            self.assertEqual(last(*calls, room(needed - 1), least())[0], more)
        self.assertEqual(last(*calls, room(BILLION), least())[0], pairs[-1][1])

    def test_without_offers(self):
        self.told([EXAMPLE_TABLE], (0, 0))
        self.told([table(1, 0), ask()], (0, 0))
        self.told([EXAMPLE_TABLE, *[ask()] * 6], (0, 120))

    def test_without_questions(self):
        self.told([EXAMPLE_TABLE, offer([0])], (0, 0))
        self.told([EXAMPLE_TABLE, *[offer([0], upkeep=4)] * 8], (0, 0))
        self.told([EXAMPLE_TABLE, ask(asked=0), offer([0])], (0, 0))

    def test_one_offer(self):
        self.told([EXAMPLE_TABLE, ask(), offer([0])], (0, 20), (20, 10))
        self.told([EXAMPLE_TABLE, ask(), offer([0], upkeep=9)], (0, 20), (20, 19))

    def test_nothing_gets_less(self):
        for upkeep in (10, 11, BILLION):
            self.told([EXAMPLE_TABLE, ask(), offer([0], upkeep=upkeep)], (0, 20))
        self.told([EXAMPLE_TABLE, ask(), offer([0], [1]), offer([0])], (0, 20), (20, 10))
        self.told([EXAMPLE_TABLE, ask(), offer([0]), offer([0], [1], upkeep=1)], (0, 20), (20, 10))
        self.told([EXAMPLE_TABLE, ask(), offer([0], [], (0, 0, 9))], (0, 20))

    def test_rooms_alike(self):
        for upkeeps in ((5, 3), (3, 5), (3, 3)):
            offers = [offer([0], upkeep=upkeep) for upkeep in upkeeps]
            self.told([EXAMPLE_TABLE, ask(), *offers], (0, 20), (20, 13))

    def test_indexes_without_entries(self):
        empty = offer([0], [], (0, 7, 9), upkeep=3)
        self.told([EXAMPLE_TABLE, ask(filters=[(0, 8, 8)]), empty], (0, 3))
        self.told([EXAMPLE_TABLE, ask(filters=[(0, 8, 8)]), offer([0]), empty], (0, 3), (20, 0))
        self.told([table(1, 0), ask(), offer([0])], (0, 0))

    def test_several_offers_together(self):
        questions = [ask(filters=[(0, 3, 3)]), ask(filters=[(1, 9, 9)])]
        self.told([EXAMPLE_TABLE, *questions, offer([0]), offer([1])], (0, 40), (20, 21), (40, 2))
        self.told([EXAMPLE_TABLE, *questions, offer([0]), offer([0], [1])], (0, 40), (20, 21), (30, 11))

    def test_a_step_for_each_set_of_six(self):
        # Each offer serves one question, and needs more room and saves more than all before it together.
        cells = [((value,), 2 ** value) for value in range(6)]
        questions = [ask(filters=[(0, value, value)], asked=3 ** value) for value in range(6)]
        offers = [offer([0], [], (0, value, value)) for value in range(6)]
        by_table = [126 * 3 ** value for value in range(6)]
        saved = [3 ** value * (126 - 2 ** value) for value in range(6)]
        pairs = []
        for step in range(64):
            pairs.append((2 * step, sum(by_table) - sum(saved[value] for value in range(6) if step >> value & 1)))
        self.told([table_of(1, cells), *questions, *offers], *pairs)
        self.told([table_of(1, cells), *questions, *offers, offer([0]), offer([0])], *pairs)

    def test_most_rooms(self):
        most = table_of(4, [((k % 10, k // 10, 0, 0), 1000000) for k in range(12)])
        offers = [offer([0], [1, 2, 3], upkeep=BILLION)] * 8
        self.told([most, ask(asked=1000), *offers], (0, 24 * BILLION), (60000000, 13 * BILLION))

    def test_example(self):
        self.told(EXAMPLE, (0, 215), (20, 93), (30, 27))

    def test_changes_nothing(self):
        self.assertEqual(state_behind(*EXAMPLE, room(60), frontier()), state_behind(*EXAMPLE, room(60)))


if __name__ == "__main__":
    unittest.main()
