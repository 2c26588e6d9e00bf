"""Promise 4: kth and with."""

import itertools
import unittest

from tests.helper import (
    BILLION, EXAMPLE, EXAMPLE_TABLE, HUGE, ask, kth, last, least, offer, room, run, state_behind, table, with_offer,
)

EIGHT_ALIKE = (EXAMPLE_TABLE,) + (offer([0]),) * 8
TWO_QUESTIONS = (ask(filters=[(0, 3, 3)]), ask(filters=[(1, 9, 9)]))


class KthTest(unittest.TestCase):

    def told(self, calls, sets):
        """That the least sets are these, in order, and no more."""
        self.assertEqual(last(*calls, least())[1], len(sets))
        for place, chosen in enumerate(sets):
            self.assertEqual(last(*calls, kth(place)), [1, len(chosen), *chosen])
        for place in (len(sets), len(sets) + 1, BILLION, HUGE - 1, HUGE):
            self.assertEqual(last(*calls, kth(place)), [0])

    def test_without_offers(self):
        self.told([EXAMPLE_TABLE], [()])
        self.told([table(1, 0)], [()])
        self.told([EXAMPLE_TABLE, *[ask()] * 6, room(BILLION)], [()])

    def test_one_offer(self):
        self.told([EXAMPLE_TABLE, ask(), offer([0]), room(20)], [(0,)])
        self.told([EXAMPLE_TABLE, ask(), offer([0]), room(19)], [()])
        self.told([EXAMPLE_TABLE, ask(), offer([0], upkeep=10), room(20)], [(), (0,)])
        self.told([EXAMPLE_TABLE, ask(asked=0), offer([0]), room(20)], [(), (0,)])

    def test_sets_by_their_numbers(self):
        offers = [offer([0], [1]), offer([0]), offer([1], [0]), offer([1])]
        calls = (EXAMPLE_TABLE, *TWO_QUESTIONS, *offers)
        self.told([*calls, room(50)], [(0, 3), (1, 2), (1, 3)])
        self.told([*calls, room(60)], [(0, 2), (0, 3), (1, 2), (1, 3)])

    def test_fewer_offers_come_first(self):
        offers = [offer([0]), offer([1], upkeep=9), offer([0], [1])]
        calls = (EXAMPLE_TABLE, *TWO_QUESTIONS, *offers, room(BILLION))
        # Each of these costs 11: 1 and 10 by offer 2, or 1 and 1 with the upkeep of offer 1.
        self.told(calls, [(2,), (0, 1), (0, 2), (1, 2), (0, 1, 2)])

    def test_all_sets_of_eight(self):
        sets = [chosen for size in range(9) for chosen in itertools.combinations(range(8), size)]
        self.assertEqual(len(sets), 256)
        self.told([*EIGHT_ALIKE, room(BILLION)], sets)
        self.told([*EIGHT_ALIKE, room(40)], [chosen for chosen in sets if len(chosen) <= 2])
        self.told([*EIGHT_ALIKE, room(0)], [()])

    def test_indexes_without_entries(self):
        offers = [offer([0], [], (0, 8, 9)), offer([0]), offer([1], [], (0, 7, 7))]
        self.told([EXAMPLE_TABLE, *offers], [(), (0,), (2,), (0, 2)])

    def test_the_room_of_now(self):
        calls = (EXAMPLE_TABLE, ask(), offer([0]), room(20), kth(0), room(0), kth(0), room(BILLION), kth(0))
        self.assertEqual(run(*calls)[4::2], [[1, 1, 0], [1, 0], [1, 1, 0]])

    def test_refused(self):
        for calls in ([EXAMPLE_TABLE], [*EXAMPLE, room(60)], EIGHT_ALIKE):
            for place in (-1, -2, -BILLION, -HUGE):
                self.assertEqual(last(*calls, kth(place)), [-4])

    def test_changes_nothing(self):
        before = state_behind(*EXAMPLE, room(60))
        for place in (0, 1, HUGE, -1, -HUGE):
            self.assertEqual(state_behind(*EXAMPLE, room(60), kth(place)), before)


class WithTest(unittest.TestCase):

    def told(self, calls, *answered):
        """What is answered for each offer; and that there are no more."""
        for number, answer in enumerate(answered):
            self.assertEqual(last(*calls, with_offer(number)), answer, number)
        for number in (-1, -2, -HUGE, len(answered), len(answered) + 1, HUGE):
            self.assertEqual(last(*calls, with_offer(number)), [-2], number)

    def test_without_offers(self):
        self.told([EXAMPLE_TABLE])
        self.told([EXAMPLE_TABLE, *[ask()] * 6, room(BILLION)])

    def test_one_offer(self):
        self.told([EXAMPLE_TABLE, offer([0], upkeep=7), room(20)], [7, 0])
        self.told([EXAMPLE_TABLE, ask(), offer([0], upkeep=7), room(20)], [17, 20])
        self.told([EXAMPLE_TABLE, ask(asked=0), offer([0], upkeep=7), room(20)], [7, 0])
        self.told([EXAMPLE_TABLE, ask(), offer([0], upkeep=BILLION), room(BILLION)], [BILLION + 10, 20])

    def test_example(self):
        self.told([*EXAMPLE, room(60)], [37, 27], [27, 40], [30, 27], [77, 27])

    def test_no_set_within_the_room_has_it(self):
        self.told([*EXAMPLE, room(0)], [-1, 215], [-1, 215], [-1, 215], [-1, 215])
        self.told([*EXAMPLE, room(29)], [-1, 93], [-1, 93], [93, 215], [265, 93])

    def test_just_within_the_room(self):
        self.told([*EXAMPLE, room(30)], [40, 27], [27, 40], [93, 27], [143, 27])

    def test_all_the_room_that_there_can_be(self):
        self.told([*EXAMPLE, room(BILLION)], [37, 27], [27, 40], [30, 27], [77, 27])

    def test_other_offers_beside_it(self):
        calls = (EXAMPLE_TABLE, *TWO_QUESTIONS, offer([0]), offer([1]))
        self.told([*calls, room(20)], [21, 21], [21, 21])
        self.told([*calls, room(40)], [2, 21], [2, 21])

    def test_index_without_entries(self):
        calls = (EXAMPLE_TABLE, ask(filters=[(0, 8, 8)]), offer([0], [], (0, 7, 9), upkeep=3), offer([1]))
        self.told([*calls, room(0)], [3, 20], [-1, 3])

    def test_eight_offers(self):
        self.told([*EIGHT_ALIKE, room(0)], *[[-1, 0]] * 8)
        self.told([*EIGHT_ALIKE, room(BILLION)], *[[0, 0]] * 8)
        offers = [offer([0], upkeep=k) for k in range(8)]
        told = [[10, 11]] + [[10 + k, 10] for k in range(1, 8)]
        self.told([EXAMPLE_TABLE, ask(), *offers, room(20)], *told)

    def test_six_questions(self):
        questions = [ask(filters=[(0, 1, 1)], asked=k) for k in range(6)]
        self.told([EXAMPLE_TABLE, *questions, offer([0], upkeep=1), room(20)], [76, 300])

    def test_changes_nothing(self):
        before = state_behind(*EXAMPLE, room(60))
        for number in (0, 3, 4, -1, HUGE, -HUGE):
            self.assertEqual(state_behind(*EXAMPLE, room(60), with_offer(number)), before)


if __name__ == "__main__":
    unittest.main()
