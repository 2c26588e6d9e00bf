"""What the interface says of the list of calls and of what is given back."""

import contextlib
import io
import unittest

from leastindexes.offers import answers
from tests.helper import EXAMPLE, OTHER_CALLS, ask, cost, costs, last, least, offer, room, run, split, table

LATER_CALLS = ("kth", "with_offer", "dominated", "prove", "check", "frontier")


def example_list():
    calls = (*EXAMPLE, costs(0), costs(1), least(), room(60), least(), cost(0, 2), cost(2, 0), table(9), costs(7))
    return [number for call in calls for number in call]


class ListTest(unittest.TestCase):

    def test_counts_stand_before_the_answers(self):
        given = answers(example_list())
        self.assertEqual(given[:18], [1, 10, 1, 0, 1, 1, 2, 0, 30, 2, 1, 30, 2, 2, 20, 2, 3, 10])
        self.assertEqual(given[18:32], [6, 175, 4, 10, 10, 50, -1, 6, 40, 4, 20, 14, 70, -1])
        self.assertEqual(given[32:], [3, 215, 1, 0, 1, 60, 4, 27, 1, 1, 1, 4, 43, 50, 1, 1, 1, -4, 1, -1, 1, -2])

    def test_one_call(self):
        self.assertEqual(answers([6]), [1, -8])
        self.assertEqual(answers([0, 0]), [1, -1])
        self.assertEqual(answers([0, 2, 3, 0]), [1, 0])

    def test_what_is_handed_in_is_not_changed(self):
        handed = example_list()
        answers(handed)
        self.assertEqual(handed, example_list())

    def test_the_same_again(self):
        handed = example_list()
        first = answers(handed)
        kept = list(first)
        second = answers(handed)
        self.assertEqual(second, kept)
        self.assertIsNot(first, second)
        first.clear()
        self.assertEqual(answers(handed), kept)

    def test_nothing_is_kept(self):
        answers(example_list())
        self.assertEqual(run(least(), ask(), room(5)), [[-8]] * 3)

    def test_whole_numbers_alone(self):
        given = answers(example_list())
        self.assertIs(type(given), list)
        for number in given:
            self.assertIs(type(number), int)

    def test_prints_nothing(self):
        with contextlib.redirect_stdout(io.StringIO()) as printed, contextlib.redirect_stderr(io.StringIO()) as told:
            answers(example_list())
        self.assertEqual(printed.getvalue() + told.getvalue(), "")


class AnyOrderTest(unittest.TestCase):

    def test_later_calls_leave_the_others_in_their_places(self):
        later = [OTHER_CALLS[name] for name in LATER_CALLS] + [[11, 27, 5, 0, 1, 0, 1, 1], [11, 5, 0], [7, 0], [8, 6]]
        alone = [*EXAMPLE, room(60), least(), cost(1)]
        told = run(*alone)
        for call in later:
            self.assertEqual(run(*alone[:8], call, *alone[8:])[9:], told[8:], call)
            self.assertEqual(len(run(*alone, call)), len(alone) + 1)

    def test_rows_that_look_like_calls(self):
        self.assertEqual(run(table(0, 2, 1, 0), [11, 6, 3, 6, 6, 6], least(), table(1, 0), cost(6, 6), least()),
                         [[-1], [-8], [-8], [0], [-4], [0, 1, 0]])

    def test_questions_and_indexes_mixed(self):
        calls = (EXAMPLE[0], offer([0]), ask(), costs(0), offer([1]), costs(0), ask(asked=2), costs(1))
        self.assertEqual(run(*calls)[3:], [[20, 1, 10], [1, 20], [20, 2, 10, 10], [1], [40, 2, 20, 20]])

    def test_forty_calls(self):
        full = [table(1, 1, 4, 1000000)] + [ask(asked=1000)] * 6 + [offer([0])] * 8
        self.assertEqual(run(*full, room(10 ** 9), *[least()] * 24)[16:], [[6 * 10 ** 9, 255, 1, 0]] * 24)

    def test_long_rows(self):
        proof = [11, 0, 600] + [0] * 600
        calls = [number for call in (EXAMPLE[0], *[proof] * 26, least()) for number in call]
        self.assertLessEqual(len(calls), 17000)
        self.assertEqual(split(answers(calls))[-1], [0, 1, 0])
        self.assertEqual(last(table(*[0] * 80), table(1, 0), [1, 40] + [0] * 40), [-1])


if __name__ == "__main__":
    unittest.main()
