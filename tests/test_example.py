"""The document's example."""

import unittest

from tests.helper import (
    EXAMPLE, check, cost, costs, dominated, frontier, kth, last, least, prove, room, run, with_offer,
)


class ExampleTest(unittest.TestCase):

    def test_table_questions_and_indexes(self):
        self.assertEqual(run(*EXAMPLE), [[10], [0], [1], [0, 30], [1, 30], [2, 20], [3, 10]])

    def test_costs(self):
        self.assertEqual(last(*EXAMPLE, costs(0)), [175, 4, 10, 10, 50, -1])
        self.assertEqual(last(*EXAMPLE, costs(1)), [40, 4, 20, 14, 70, -1])

    def test_least_without_room(self):
        self.assertEqual(last(*EXAMPLE, least()), [215, 1, 0])

    def test_least_with_room(self):
        self.assertEqual(run(*EXAMPLE, room(60), least())[-2:], [[60], [27, 1, 1, 1]])

    def test_kth(self):
        self.assertEqual(run(*EXAMPLE, room(60), kth(0), kth(1))[-2:], [[1, 1, 1], [0]])

    def test_with(self):
        self.assertEqual(last(*EXAMPLE, room(60), with_offer(0)), [37, 27])

    def test_dominated(self):
        self.assertEqual(last(*EXAMPLE, room(60), dominated()), [1, -1, -1, -2, 2, 1, 2])

    def test_frontier(self):
        self.assertEqual(last(*EXAMPLE, room(60), frontier()), [3, 0, 215, 20, 93, 30, 27])

    def test_prove(self):
        self.assertEqual(last(*EXAMPLE, room(60), prove()), [27, 3, 0, 1, 0, 1, 1])

    def test_check(self):
        self.assertEqual(last(*EXAMPLE, room(60), check(27, 0, 1, 0, 1, 1)), [1])
        self.assertEqual(last(*EXAMPLE, room(60), check(28, 0, 1, 0, 1, 1)), [0])

    def test_bounds_that_the_proof_names(self):
        # Without room whatever has an offer is ended by room, so the one bound ahead of the last decides.
        with_0 = (0, 1, 0, 2, 0, 2, 0, 2, 1)
        with_1 = (0, 2, 0, 1, 0, 2, 0, 2, 1)
        without_both = (0, 2, 0, 2, 1)
        for told, proof in ((34, with_0), (27, with_1), (90, without_both)):
            answered = run(*EXAMPLE, room(0), check(told, *proof), check(told + 1, *proof))
            self.assertEqual(answered[-2:], [[1], [0]], proof)

    def test_all_in_one_line(self):
        calls = (costs(0), costs(1), least(), room(60), least(), with_offer(0), dominated(), frontier(), prove())
        told = [[175, 4, 10, 10, 50, -1], [40, 4, 20, 14, 70, -1], [215, 1, 0], [60], [27, 1, 1, 1], [37, 27]]
        told += [[1, -1, -1, -2, 2, 1, 2], [3, 0, 215, 20, 93, 30, 27], [27, 3, 0, 1, 0, 1, 1], [1], [0]]
        calls += (check(27, 0, 1, 0, 1, 1), check(28, 0, 1, 0, 1, 1))
        self.assertEqual(run(*EXAMPLE, *calls)[len(EXAMPLE):], told)

    def test_costs_that_the_frontier_and_the_proof_name(self):
        self.assertEqual(last(*EXAMPLE, room(19), least())[0], 215)
        self.assertEqual(last(*EXAMPLE, room(20), least()), [93, 1, 1, 2])
        self.assertEqual(last(*EXAMPLE, room(29), least()), [93, 1, 1, 2])
        self.assertEqual(last(*EXAMPLE, room(30), least()), [27, 1, 1, 1])

    def test_cost(self):
        self.assertEqual(last(*EXAMPLE, cost()), [215, 0, 0, 0])
        self.assertEqual(last(*EXAMPLE, cost(0, 1)), [37, 60, 1, 2])
        self.assertEqual(last(*EXAMPLE, cost(2, 3)), [143, 30, 3, 0])
        self.assertEqual(last(*EXAMPLE, cost(0, 1, 2, 3)), [90, 90, 1, 2])


if __name__ == "__main__":
    unittest.main()
