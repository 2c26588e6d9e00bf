"""What the interface says of the list of calls and of what is given back."""

import contextlib
import io
import unittest

from leastindexes.offers import answers
from tests.helper import (
    EXAMPLE, HUGE, ask, check, cost, costs, dominated, frontier, kth, last, least, offer, prove, room, run, split,
    table, with_offer,
)

ASKING_CALLS = (
    costs(0), cost(1), least(), kth(0), with_offer(0), dominated(), prove(), check(27, 0, 1, 0, 1, 1), frontier(),
)
REFUSED_CALLS = (costs(7), cost(6, 6), kth(-1), with_offer(6), check(-1, 1), check(6, 6, 6), check(5))


def example_list():
    calls = (*EXAMPLE, costs(0), costs(1), least(), room(60), least(), cost(0, 2), cost(2, 0), table(9), costs(7))
    calls += (kth(0), with_offer(0), dominated(), prove(), check(27, 0, 1, 0, 1, 1), frontier(), *REFUSED_CALLS)
    return [number for call in calls for number in call]


class ListTest(unittest.TestCase):

    def test_counts_stand_before_the_answers(self):
        given = answers(example_list())
        self.assertEqual(given[:18], [1, 10, 1, 0, 1, 1, 2, 0, 30, 2, 1, 30, 2, 2, 20, 2, 3, 10])
        self.assertEqual(given[18:32], [6, 175, 4, 10, 10, 50, -1, 6, 40, 4, 20, 14, 70, -1])
        self.assertEqual(given[32:54], [3, 215, 1, 0, 1, 60, 4, 27, 1, 1, 1, 4, 43, 50, 1, 1, 1, -4, 1, -1, 1, -2])
        self.assertEqual(given[54:68], [3, 1, 1, 1, 2, 37, 27, 7, 1, -1, -1, -2, 2, 1])
        self.assertEqual(given[68:87], [2, 7, 27, 3, 0, 1, 0, 1, 1, 1, 1, 7, 3, 0, 215, 20, 93, 30, 27])
        self.assertEqual(given[87:], [1, -2, 1, -4, 1, -4, 1, -2, 1, -3, 1, -4, 1, -4])

    def test_a_table_with_a_question_alone(self):
        handed = [0, 6, 1, 2, 6, 6, 0, 6, 1, 7, 0, 0, 0, 1, 0, 1000000, 1, 3, 100, 8, 0, 10, 9, 8, 0, 4, 0, 7, 2, 4, 0]
        told = [1, 12, 1, 0, 1, 100, 1, -2, 3, 24, 1, 1, 1, 0, 1, -2, 2, 24, 0, 1, 0, 2, 24, 0, 1, 10]
        self.assertEqual(answers(handed + [3, 10]), told)

    def test_numbers_that_are_no_refusals_stand_beside_others(self):
        calls = (EXAMPLE[0], ask(), offer([0]), dominated(), with_offer(0), offer([0], [], (0, 8, 9)), dominated())
        self.assertEqual(run(*calls)[3:], [[-1, 1, 0], [-1, 20], [1, 0], [-1, -2, 1, 0]])
        self.assertEqual(last(EXAMPLE[0], offer([0]), dominated()), [-2, 0])

    def test_one_call(self):
        self.assertEqual(answers([6]), [1, -8])
        self.assertEqual(answers([0, 0]), [1, -1])
        self.assertEqual(answers([0, 2, 3, 0]), [1, 0])

    def test_what_is_handed_in_is_not_changed(self):
        handed = example_list()
        answers(handed)
        self.assertEqual(handed, example_list())

    def test_the_same_again(self):
        handed = example_list()
        first = answers(handed)
        kept = list(first)
        second = answers(handed)
        self.assertEqual(second, kept)
        self.assertIsNot(first, second)
        first.clear()
        self.assertEqual(answers(handed), kept)

    def test_nothing_is_kept(self):
        answers(example_list())
        self.assertEqual(run(least(), ask(), room(5)), [[-8]] * 3)

    def test_whole_numbers_alone(self):
        given = answers(example_list())
        self.assertIs(type(given), list)
        for number in given:
            self.assertIs(type(number), int)

    def test_prints_nothing(self):
        with contextlib.redirect_stdout(io.StringIO()) as printed, contextlib.redirect_stderr(io.StringIO()) as told:
            answers(example_list())
        self.assertEqual(printed.getvalue() + told.getvalue(), "")


class AnyOrderTest(unittest.TestCase):

    def test_asking_leaves_the_other_answers_as_they_are(self):
        made = (*EXAMPLE, room(60))
        told = run(*made, *ASKING_CALLS)[len(made):]
        for call in ASKING_CALLS + REFUSED_CALLS:
            self.assertEqual(run(*made, call, *ASKING_CALLS)[len(made) + 1:], told, call)
        self.assertEqual(run(*made, *reversed(ASKING_CALLS))[len(made):], told[::-1])

    def test_asking_looks_at_what_is_there_now(self):
        calls = (EXAMPLE[0], frontier(), prove(), ask(), frontier(), prove(), offer([0]), frontier(), prove(), room(20))
        told = [[1, 0, 0], [0, 1, 1], [0], [1, 0, 20], [20, 1, 1], [0, 20], [2, 0, 20, 20, 10], [20, 2, 0, 2, 1]]
        self.assertEqual(run(*calls, prove(), table(1, 0), prove())[1:], told + [[20], [10, 1, 1], [0], [0, 1, 1]])

    def test_rows_that_look_like_calls(self):
        self.assertEqual(run(table(0, 2, 1, 0), [11, 6, 3, 6, 6, 6], least(), table(1, 0), cost(6, 6), least()),
                         [[-1], [-8], [-8], [0], [-4], [0, 1, 0]])

    def test_questions_and_indexes_mixed(self):
        calls = (EXAMPLE[0], offer([0]), ask(), costs(0), offer([1]), costs(0), ask(asked=2), costs(1))
        self.assertEqual(run(*calls)[3:], [[20, 1, 10], [1, 20], [20, 2, 10, 10], [1], [40, 2, 20, 20]])

    def test_forty_calls(self):
        full = [table(1, 1, 4, 1000000)] + [ask(asked=1000)] * 6 + [offer([0])] * 8
        self.assertEqual(run(*full, room(10 ** 9), *[least()] * 24)[16:], [[6 * 10 ** 9, 255, 1, 0]] * 24)
        steps = [2, 0, 12 * 10 ** 9, 2000000, 6 * 10 ** 9]
        self.assertEqual(run(*full, room(0), *[frontier()] * 24)[16:], [steps] * 24)
        proof = [12 * 10 ** 9, 9] + [0, 2] * 8 + [1]
        self.assertEqual(run(*full, room(0), *[prove()] * 24)[16:], [proof] * 24)

    def test_long_rows(self):
        proofs = [check(HUGE, *[0] * 600), check(0, *[HUGE] * 600)] * 13
        calls = [number for call in (EXAMPLE[0], *proofs, least()) for number in call]
        self.assertLessEqual(len(calls), 17000)
        self.assertEqual(split(answers(calls))[1:], [[-4]] * 26 + [[0, 1, 0]])
        self.assertEqual(last(table(*[0] * 80), table(1, 0), [1, 40] + [0] * 40), [-1])


if __name__ == "__main__":
    unittest.main()
