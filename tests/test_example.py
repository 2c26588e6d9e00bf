"""The document's example, as far as the calls up to least go."""

import unittest

from tests.helper import EXAMPLE, cost, costs, last, least, room, run


class ExampleTest(unittest.TestCase):

    def test_table_questions_and_indexes(self):
        self.assertEqual(run(*EXAMPLE), [[10], [0], [1], [0, 30], [1, 30], [2, 20], [3, 10]])

    def test_costs(self):
        self.assertEqual(last(*EXAMPLE, costs(0)), [175, 4, 10, 10, 50, -1])
        self.assertEqual(last(*EXAMPLE, costs(1)), [40, 4, 20, 14, 70, -1])

    def test_least_without_room(self):
        self.assertEqual(last(*EXAMPLE, least()), [215, 1, 0])

    def test_least_with_room(self):
        self.assertEqual(run(*EXAMPLE, room(60), least())[-2:], [[60], [27, 1, 1, 1]])

    def test_costs_that_the_frontier_and_the_proof_name(self):
        self.assertEqual(last(*EXAMPLE, room(19), least())[0], 215)
        self.assertEqual(last(*EXAMPLE, room(20), least()), [93, 1, 1, 2])
        self.assertEqual(last(*EXAMPLE, room(29), least()), [93, 1, 1, 2])
        self.assertEqual(last(*EXAMPLE, room(30), least()), [27, 1, 1, 1])

    def test_cost(self):
        self.assertEqual(last(*EXAMPLE, cost()), [215, 0, 0, 0])
        self.assertEqual(last(*EXAMPLE, cost(0, 1)), [37, 60, 1, 2])
        self.assertEqual(last(*EXAMPLE, cost(2, 3)), [143, 30, 3, 0])
        self.assertEqual(last(*EXAMPLE, cost(0, 1, 2, 3)), [90, 90, 1, 2])


if __name__ == "__main__":
    unittest.main()
