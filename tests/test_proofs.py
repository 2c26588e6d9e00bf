"""Promise 5: check; and prove."""

import unittest

from tests.helper import (
    BILLION, EXAMPLE, EXAMPLE_TABLE, HUGE, ask, check, last, least, offer, prove, room, run, state_behind, table,
    table_of,
)

EIGHT_ALIKE = (EXAMPLE_TABLE, ask()) + (offer([0]),) * 8


def comb(splits):
    """A proof of bounds with so many splits, each but the first in the second part of another one."""
    return [0, 1] * splits + [1]


def comb_of_first_parts(splits):
    return [0] * splits + [1] * (splits + 1)


def zigzag(splits):
    """Splits in first and in second parts in turn."""
    if splits == 0:
        return [1]
    inner = zigzag(splits - 1)
    return [0, *inner, 1] if splits % 2 == 0 else [0, 1, *inner]


def full_tree(splits):
    return [1] if splits == 0 else [0] + full_tree(splits - 1) * 2


class ProveTest(unittest.TestCase):

    def told(self, calls, cost, *proof):
        bounds_and_rooms = len([step for step in proof if step != 0])
        answer = last(*calls, prove())
        self.assertEqual(answer, [cost, bounds_and_rooms, *proof])
        checks = run(*calls, check(cost, *proof), check(cost + 1, *proof), least())[-3:]
        self.assertEqual([checks[0], checks[1], checks[2][0]], [[1], [0], cost])

    def test_without_offers(self):
        self.told([EXAMPLE_TABLE], 0, 1)
        self.told([table(1, 0), ask()], 0, 1)
        self.told([EXAMPLE_TABLE, ask()], 20, 1)
        self.told([EXAMPLE_TABLE, *[ask(asked=k) for k in range(6)], room(BILLION)], 300, 1)

    def test_without_questions(self):
        self.told([EXAMPLE_TABLE, offer([0], upkeep=5)], 0, 1)
        self.told([EXAMPLE_TABLE, offer([0], upkeep=5), room(BILLION)], 0, 1)
        self.told([EXAMPLE_TABLE, ask(asked=0), offer([0], upkeep=5)], 0, 1)

    def test_one_offer(self):
        calls = (EXAMPLE_TABLE, ask())
        self.told([*calls, offer([0]), room(20)], 10, 1)
        self.told([*calls, offer([0]), room(19)], 20, 0, 2, 1)
        self.told([*calls, offer([0], upkeep=1), room(20)], 11, 0, 1, 1)
        self.told([*calls, offer([0], upkeep=1), room(19)], 20, 0, 2, 1)

    def test_room_comes_before_bound(self):
        calls = (EXAMPLE_TABLE, ask(), offer([0], upkeep=BILLION))
        self.told([*calls, room(19)], 20, 0, 2, 1)
        self.told([*calls, room(20)], 20, 0, 1, 1)

    def test_bound_that_holds_just(self):
        calls = (EXAMPLE_TABLE, ask(), offer([0]), offer([1], upkeep=10), room(20))
        self.told(calls, 10, 1)
        calls = (EXAMPLE_TABLE, ask(), offer([0], upkeep=5), offer([0], upkeep=6), room(20))
        self.told(calls, 15, 0, 1, 0, 1, 1)
        calls = (EXAMPLE_TABLE, ask(), ask(filters=[(1, 9, 9)]), offer([0], upkeep=4), offer([1], [0], upkeep=5))
        self.told([*calls, room(50)], 16, 0, 0, 1, 1, 0, 1, 1)

    def test_example(self):
        self.told([*EXAMPLE, room(0)], 215, 0, 2, 0, 2, 0, 2, 1)
        self.told([*EXAMPLE, room(20)], 93, 0, 2, 0, 2, 0, 1, 1)
        self.told([*EXAMPLE, room(30)], 27, 0, 1, 0, 1, 1)
        self.told([*EXAMPLE, room(BILLION)], 27, 0, 1, 0, 1, 1)

    def test_indexes_without_entries(self):
        calls = (EXAMPLE_TABLE, ask(filters=[(0, 8, 8)]), offer([0], [], (0, 7, 9), upkeep=3))
        self.told([*calls, room(0)], 3, 0, 1, 1)

    def test_eight_offers(self):
        self.told([*EIGHT_ALIKE, room(19)], 20, *[0, 2] * 8, 1)
        self.told([*EIGHT_ALIKE, room(20)], 10, 1)
        offers = [offer([0], upkeep=8 - k) for k in range(8)]
        self.told([EXAMPLE_TABLE, ask(), *offers, room(20)], 11, *[0, 1] * 8, 1)

    def test_splits_in_first_parts(self):
        cells = [((value,), 10) for value in range(3)]
        questions = [ask(filters=[(0, value, value)]) for value in range(3)]
        offers = [offer([0], [], (0, value, value)) for value in range(3)]
        calls = (table_of(1, cells), *questions, *offers)
        # Of three offers that save 50 each two are within the room.
        self.told([*calls, room(40)], 80, 0, 0, 0, 2, 1, 1, 1)
        self.told([*calls, room(59)], 80, 0, 0, 0, 2, 1, 1, 1)
        self.told([*calls, room(60)], 30, 1)
        self.told([*calls, room(20)], 130, 0, 0, 2, 0, 2, 1, 0, 0, 2, 1, 1)

    def test_six_questions(self):
        questions = [ask(filters=[(0, 1, 1)], asked=k) for k in range(6)]
        self.told([EXAMPLE_TABLE, *questions, offer([0], upkeep=1), room(20)], 76, 0, 1, 1)

    def test_changes_nothing(self):
        self.assertEqual(state_behind(*EXAMPLE, room(60), prove()), state_behind(*EXAMPLE, room(60)))


class CheckTest(unittest.TestCase):

    def holds_up_to(self, calls, cost, *proof):
        """That the proof is accepted for this cost and all lesser ones, but for no greater one."""
        for told in {0, cost - 1, cost}:
            if told >= 0:
                self.assertEqual(last(*calls, check(told, *proof)), [1], (told, proof))
        for told in (cost + 1, cost + BILLION, HUGE):
            self.assertEqual(last(*calls, check(told, *proof)), [0], (told, proof))

    def never_holds(self, calls, *proof):
        for cost in (0, 1, 20, BILLION, HUGE):
            self.assertEqual(last(*calls, check(cost, *proof)), [0], (cost, proof))

    def test_bound_alone(self):
        self.holds_up_to([EXAMPLE_TABLE], 0, 1)
        self.holds_up_to([EXAMPLE_TABLE, ask()], 20, 1)
        self.holds_up_to([EXAMPLE_TABLE, ask(), offer([0], upkeep=5)], 10, 1)
        self.holds_up_to([*EXAMPLE, room(0)], 24, 1)
        self.holds_up_to([*EXAMPLE, room(BILLION)], 24, 1)

    def test_room_alone(self):
        for calls in ([EXAMPLE_TABLE], EXAMPLE, [*EXAMPLE, room(BILLION)]):
            self.never_holds(calls, 2)

    def test_bound_has_the_upkeep_of_the_chosen_ones_alone(self):
        calls = (EXAMPLE_TABLE, ask(), offer([0], upkeep=3), offer([0], upkeep=4), room(BILLION))
        self.holds_up_to(calls, 10, 0, 1, 1)
        self.holds_up_to(calls, 13, 0, 1, 0, 1, 1)
        self.holds_up_to(calls, 13, 0, 0, 1, 1, 0, 1, 1)

    def test_bound_has_not_what_is_left_out(self):
        calls = (EXAMPLE_TABLE, ask(), offer([0], upkeep=100), room(BILLION))
        self.holds_up_to(calls, 20, 0, 1, 1)
        calls = (EXAMPLE_TABLE, ask(), offer([0], upkeep=100), offer([1], upkeep=200), room(BILLION))
        self.holds_up_to(calls, 10, 0, 1, 1)
        self.holds_up_to(calls, 20, 0, 1, 0, 1, 1)

    def test_bound_does_not_ask_for_the_room(self):
        calls = (EXAMPLE_TABLE, ask(), offer([0]), room(0))
        self.holds_up_to(calls, 10, 1)
        self.holds_up_to(calls, 10, 0, 1, 1)
        self.holds_up_to(calls, 20, 0, 2, 1)

    def test_first_part_is_with_the_offer(self):
        calls = (EXAMPLE_TABLE, ask(), offer([0]), room(0))
        self.holds_up_to(calls, 20, 0, 2, 1)
        self.never_holds(calls, 0, 1, 2)

    def test_room_is_more_than_the_room(self):
        calls = (EXAMPLE_TABLE, ask(), offer([0]))
        self.holds_up_to([*calls, room(19)], 20, 0, 2, 1)
        self.never_holds([*calls, room(20)], 0, 2, 1)

    def test_rooms_of_the_chosen_ones_together(self):
        calls = (EXAMPLE_TABLE, ask(), offer([0], upkeep=2), offer([1], upkeep=3))
        self.holds_up_to([*calls, room(39)], 12, 0, 0, 2, 1, 0, 1, 1)
        self.never_holds([*calls, room(40)], 0, 0, 2, 1, 0, 1, 1)
        self.never_holds([*calls, room(39)], 0, 2, 1)
        self.never_holds([*calls, room(39)], 0, 0, 2, 2, 0, 1, 1)

    def test_room_of_an_index_without_entries(self):
        calls = (EXAMPLE_TABLE, ask(), offer([0], [], (0, 8, 9)), offer([0]))
        self.never_holds([*calls, room(0)], 0, 2, 1)
        self.holds_up_to([*calls, room(0)], 20, 0, 0, 2, 1, 0, 2, 1)

    def test_room_holds_for_whatever_cost(self):
        questions = [ask(order=[0], asked=1000)] * 6
        calls = (table_of(1, [((0,), 1000000), ((1,), 1000000)]), *questions, offer([0]), room(0))
        self.holds_up_to(calls, 60 * BILLION, 0, 2, 1)

    def test_all_parts_must_hold(self):
        calls = (EXAMPLE_TABLE, ask(), offer([0], upkeep=5), offer([1], upkeep=7), room(20))
        accepted = (0, 0, 2, 1, 0, 1, 1)
        self.holds_up_to(calls, 15, *accepted)
        for wrong in ((0, 0, 2, 2, 0, 1, 1), (0, 0, 2, 1, 0, 2, 1), (0, 0, 2, 1, 0, 1, 2), (0, 0, 2, 1, 2), (0, 2, 1)):
            self.never_holds(calls, *wrong)

    def test_a_split_too_many(self):
        self.never_holds([EXAMPLE_TABLE], 0, 1, 1)
        self.never_holds([EXAMPLE_TABLE, ask()], 0, 2, 1)
        calls = (EXAMPLE_TABLE, ask(), offer([0]), room(20))
        self.holds_up_to(calls, 10, 0, 1, 1)
        self.never_holds(calls, 0, 0, 1, 1, 1)
        self.never_holds(calls, 0, 1, 0, 1, 1)
        self.never_holds(calls, 0, 0, 1, 1, 0, 1, 1)

    def test_splits_for_each_of_eight_offers(self):
        for proof in (comb(8), comb_of_first_parts(8), zigzag(8), full_tree(8)):
            self.holds_up_to([*EIGHT_ALIKE, room(0)], 10, *proof)

    def test_nine_deep_is_whole_a_proof(self):
        for proof in (comb(9), comb_of_first_parts(9), zigzag(9), [0] + comb(8) * 2, [0, *comb(3), *zigzag(8)]):
            self.never_holds(EIGHT_ALIKE, *proof)
            self.never_holds([EXAMPLE_TABLE], *proof)

    def test_ten_deep_is_not_one(self):
        for splits in (10, 11, 20, 299):
            for proof in (comb(splits), comb_of_first_parts(splits), zigzag(splits)):
                self.assertEqual(last(*EIGHT_ALIKE, check(0, *proof)), [-4])
        for proof in ([0, *comb(3), *comb(9)], [0, *zigzag(9), *comb(3)]):
            self.assertEqual(last(*EIGHT_ALIKE, check(0, *proof)), [-4])

    def test_the_longest(self):
        second = []
        for part in (full_tree(4), full_tree(4), full_tree(3), full_tree(1), full_tree(0)):
            second += [0, *part]
        proof = [0, *full_tree(8), *second, 1]
        # A proof has one number more for its bounds and rooms than for its splits, so never 600.
        self.assertEqual(len(proof), 599)
        self.never_holds(EIGHT_ALIKE, *proof)
        for wrong in (proof[:-1], [*proof, 1], [*proof, 0], full_tree(8) + [1] * 89, full_tree(8)[:-1]):
            self.assertEqual(last(*EIGHT_ALIKE, check(0, *wrong)), [-4])

    def test_refused_costs(self):
        for cost in (-1, -2, -BILLION, -HUGE):
            self.assertEqual(last(*EXAMPLE, check(cost, 1)), [-3])
            self.assertEqual(last(EXAMPLE_TABLE, check(cost, 1)), [-3])

    def test_refused_proofs(self):
        whole = (0, 1, 0, 2, 0, 1, 1)
        self.assertEqual(last(*EXAMPLE, check(0, *whole)), [1])
        self.assertEqual(last(EXAMPLE_TABLE, check(HUGE, *whole)), [0])
        wrong = [(), (0,), (0, 0), (0, 2), (1, 1), (2, 2), (1, 0), (2, 0), (1, 1, 1), (1, 2, 0)]
        wrong += [whole[:length] for length in range(len(whole))]
        wrong += [(*whole, more) for more in (0, 1, 2, 3, -1, HUGE)]
        wrong += [(step,) for step in (-1, 3, 4, HUGE, -HUGE)]
        for place in range(len(whole)):
            wrong += [(*whole[:place], step, *whole[place + 1:]) for step in (-1, 3, HUGE, -HUGE)]
        for proof in wrong:
            self.assertEqual(last(*EXAMPLE, check(0, *proof)), [-4], proof)
            self.assertEqual(last(EXAMPLE_TABLE, check(HUGE, *proof)), [-4], proof)

    def test_not_whole_though_what_is_read_first_fails(self):
        for proof in ((2, 1), (0, 2), (0, 2, 1, 3), (0, 1, 0, 1)):
            self.assertEqual(last(EXAMPLE_TABLE, check(0, *proof)), [-4], proof)

    def test_order_of_refusals(self):
        for proof in ((), (0,), (1, 1), (3,), comb(10)):
            self.assertEqual(last(*EXAMPLE, check(-1, *proof)), [-3])
            self.assertEqual(last(*EXAMPLE, check(-HUGE, *proof)), [-3])
            self.assertEqual(last(*EXAMPLE, check(0, *proof)), [-4])
            self.assertEqual(run(check(-1, *proof)), [[-8]])

    def test_changes_nothing(self):
        before = state_behind(*EXAMPLE, room(60))
        for call in (check(27, 0, 1, 0, 1, 1), check(28, 1), check(-1, 1), check(-1), check(0), check(0, 3)):
            self.assertEqual(state_behind(*EXAMPLE, room(60), call), before)


if __name__ == "__main__":
    unittest.main()
