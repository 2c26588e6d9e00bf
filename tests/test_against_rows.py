"""What is answered against a second way to find it: row by row and set by set, from the words alone."""

import itertools
import math
import random
import unittest

from tests.helper import (
    ask, check, cost, costs, dominated, frontier, kth, least, offer, prove, room, run, table_of, with_offer,
)


def rows_of(groups):
    return [values for values, count in groups for repeat in range(count)]


def passes(row, filters):
    return all(low <= row[column] <= high for column, low, high in filters)


def is_equal(asked, column):
    return any(each == column and low == high for each, low, high in asked["filters"])


def one_by_one(rows, asked, touch, looked_up, order_is_free):
    """Touches rows one after another; looked_up tells whether one is."""
    spent = 0
    found = 0
    for row in rows:
        spent += touch + (4 if looked_up(row) else 0)
        if passes(row, asked["filters"]):
            found += 1
            if order_is_free and found == asked["limit"]:
                break
    return spent + (0 if order_is_free else 3 * found)


def by_table(groups, asked):
    order = [column for column in asked["order"] if not is_equal(asked, column)]
    return one_by_one(rows_of(groups), asked, 2, lambda row: False, not order) * asked["asked"]


def serves(indexed, asked):
    if indexed["condition"] is None:
        return True
    column, low, high = indexed["condition"]
    own = [each for each in asked["filters"] if each[0] == column]
    return any(set(range(a, b + 1)) <= set(range(low, high + 1)) for column, a, b in own)


def range_filters(indexed, asked):
    told = {column: (column, low, high) for column, low, high in asked["filters"]}
    used = []
    for key in indexed["keys"]:
        if key in told:
            used.append(told[key])
        if not is_equal(asked, key):
            break
    return used


def by_index(groups, asked, indexed):
    if not serves(indexed, asked):
        return -1
    keys = indexed["keys"]
    own = set(keys) | set(indexed["included"])
    entries = [row for row in rows_of(groups) if indexed["condition"] is None or passes(row, [indexed["condition"]])]
    entries = [row for row in entries if passes(row, range_filters(indexed, asked))]
    for key in reversed(keys):
        entries.sort(key=lambda row: row[key])
    if asked["backwards"]:
        entries.reverse()
    needed = {each[0] for each in asked["filters"]} | set(asked["order"]) | set(asked["wanted"])
    known = [each for each in asked["filters"] if each[0] in own]
    order = [column for column in asked["order"] if not is_equal(asked, column)]
    loose = [column for column in keys if not is_equal(asked, column)]
    free = loose[:len(order)] == order
    covered = needed <= own
    return one_by_one(entries, asked, 1, lambda row: not covered and passes(row, known), free) * asked["asked"]


def room_of(groups, indexed):
    entries = [row for row in rows_of(groups) if indexed["condition"] is None or passes(row, [indexed["condition"]])]
    return len(entries) * (len(indexed["keys"]) + len(indexed["included"]) + 1)


def set_answer(ways, offers, rooms, chosen):
    """What cost answers; ways has for each question its costs, the table's first."""
    total = sum(offers[k]["upkeep"] for k in chosen)
    picked = []
    for costs_of_one in ways:
        possible = [0] + [k + 1 for k in chosen if costs_of_one[k + 1] >= 0]
        spent, way = min((costs_of_one[way], way) for way in possible)
        total += spent
        picked.append(way)
    return [total, sum(rooms[k] for k in chosen)] + picked


def all_sets(count):
    return [chosen for size in range(count + 1) for chosen in itertools.combinations(range(count), size)]


class Maker:
    """Makes tables, questions and offers, the same ones for the same seed."""

    def __init__(self, seed):
        self.source = random.Random(seed)
        self.width = self.source.randint(1, 4)
        self.highest = self.source.choice((1, 2, 3, 9))

    def groups(self):
        cells = [tuple(self.source.randint(0, self.highest) for column in range(self.width)) for k in range(12)]
        unlike = list(dict.fromkeys(cells))[:self.source.randint(0, 12)]
        return [(values, self.source.randint(1, 4)) for values in unlike]

    def columns(self, fewest=0):
        return self.source.sample(range(self.width), self.source.randint(fewest, self.width))

    def filter(self, column):
        ends = [self.source.randint(0, self.highest) for end in range(2)]
        if self.source.random() < 0.4:
            ends[1] = ends[0]
        return (column, min(ends), max(ends))

    def question(self):
        return {
            "filters": [self.filter(column) for column in self.columns()],
            "order": self.columns(),
            "backwards": self.source.randint(0, 1),
            "wanted": self.columns() if self.source.random() < 0.5 else [],
            "limit": self.source.choice((0, 1, 2, 3, 5, 8, 13, 100)),
            "asked": self.source.randint(0, 3),
        }

    def offer(self):
        columns = self.columns(1)
        keys = self.source.randint(1, len(columns))
        condition = None
        if self.source.random() < 0.4:
            condition = self.filter(self.source.randrange(self.width))
        return {
            "keys": columns[:keys], "included": columns[keys:], "condition": condition,
            "upkeep": self.source.randint(0, 8),
        }


class Case:
    """What a seed makes, and what the words say of it."""

    def __init__(self, seed):
        maker = Maker(seed)
        self.source = maker.source
        self.groups = maker.groups()
        self.questions = [maker.question() for k in range(self.source.randint(0, 6))]
        self.offers = [maker.offer() for k in range(self.source.randint(0, 8))]
        self.rooms = [room_of(self.groups, each) for each in self.offers]
        self.room = self.source.randint(0, sum(self.rooms) + 1)
        self.ways = [self.ways_of(asked) for asked in self.questions]
        self.sets = {}
        for chosen in all_sets(len(self.offers)):
            self.sets[chosen] = set_answer(self.ways, self.offers, self.rooms, chosen)
        self.within = {chosen: told[0] for chosen, told in self.sets.items() if told[1] <= self.room}
        self.lowest = min(self.within.values())
        self.least = [chosen for chosen, spent in self.within.items() if spent == self.lowest]
        self.calls = [table_of(maker.width, self.groups)] + [ask(**asked) for asked in self.questions]
        self.calls += [offer(**each) for each in self.offers] + [room(self.room)]

    def ways_of(self, asked):
        return [by_table(self.groups, asked)] + [by_index(self.groups, asked, each) for each in self.offers]

    def told(self):
        """What is answered to the calls that make the case."""
        told = [[len(rows_of(self.groups))]] + [[k] for k in range(len(self.questions))]
        return told + [[k, self.rooms[k]] for k in range(len(self.offers))] + [[self.room]]

    def told_kth(self, place):
        if place >= len(self.least):
            return [0]
        return [1, len(self.least[place]), *self.least[place]]

    def told_with(self, number):
        have = [spent for chosen, spent in self.within.items() if number in chosen]
        have_not = [spent for chosen, spent in self.within.items() if number not in chosen]
        return [min(have) if have else -1, min(have_not)]

    def measures(self, number):
        """All in which an offer is to be no more than another one."""
        by_it = [math.inf if each[number + 1] < 0 else each[number + 1] for each in self.ways]
        return by_it + [self.offers[number]["upkeep"], self.rooms[number]]

    def is_as_good(self, one, other):
        return all(a <= b for a, b in zip(self.measures(one), self.measures(other)))

    def standing(self, number):
        for other in range(len(self.offers)):
            alike = self.is_as_good(number, other)
            if other != number and self.is_as_good(other, number) and (not alike or number > other):
                return other
        saved = 0
        for each, by_it in zip(self.ways, self.measures(number)):
            saved += max(0, each[0] - by_it)
        return -2 if saved <= self.offers[number]["upkeep"] else -1

    def told_dominated(self):
        standings = [self.standing(number) for number in range(len(self.offers))]
        mattering = [number for number, standing in enumerate(standings) if standing == -1]
        return [*standings, len(mattering), *mattering]

    def bound(self, looked_at, chosen):
        usable = [*chosen, *range(looked_at, len(self.offers))]
        asking = [min([each[0]] + [each[k + 1] for k in usable if each[k + 1] >= 0]) for each in self.ways]
        return sum(asking) + sum(self.offers[k]["upkeep"] for k in chosen)

    def has_no_room(self, chosen):
        return sum(self.rooms[k] for k in chosen) > self.room

    def proof(self, looked_at=0, chosen=()):
        if self.has_no_room(chosen):
            return [2]
        if self.lowest <= self.bound(looked_at, chosen):
            return [1]
        first = self.proof(looked_at + 1, (*chosen, looked_at))
        return [0] + first + self.proof(looked_at + 1, chosen)

    def told_prove(self):
        proof = self.proof()
        return [self.lowest, len(proof) - proof.count(0), *proof]

    def random_tree(self, looked_at=0, chosen=()):
        """A proof, or part of one, and the highest cost that it proves: -1 if it proves none."""
        step = self.source.choice((0, 0, 1, 2) if looked_at < 8 else (1, 2))
        if step == 2 and not self.has_no_room(chosen) and self.source.random() < 0.9:
            step = 1
        if step == 1:
            return [1], self.bound(looked_at, chosen)
        if step == 2:
            return [2], math.inf if self.has_no_room(chosen) else -1
        first, highest = self.random_tree(looked_at + 1, (*chosen, looked_at) if looked_at < len(self.offers) else ())
        second, highest_of_second = self.random_tree(looked_at + 1, chosen)
        if looked_at >= len(self.offers):
            return [0, *first, *second], -1
        return [0, *first, *second], min(highest, highest_of_second)

    def told_frontier(self):
        pairs = []
        for given in sorted({told[1] for told in self.sets.values()}):
            spent = min(told[0] for told in self.sets.values() if told[1] <= given)
            if not pairs or spent < pairs[-1][1]:
                pairs.append((given, spent))
        return [len(pairs)] + [number for pair in pairs for number in pair]


class RowByRowTest(unittest.TestCase):

    def compare(self, seed, case, calls, told):
        self.assertLessEqual(len(case.calls) + len(calls), 40)
        self.assertEqual(run(*case.calls, *calls), case.told() + told, f"seed {seed}")

    def test_costs_cost_and_least(self):
        for seed in range(600):
            case = Case(seed)
            looked_at = case.source.sample(list(case.sets), min(len(case.sets), 12))
            calls = [costs(k) for k in range(len(case.questions))] + [least()]
            calls += [cost(*chosen) for chosen in looked_at]
            told = [[each[0], len(case.offers)] + each[1:] for each in case.ways]
            told += [[case.lowest, len(case.least), len(case.least[0]), *case.least[0]]]
            self.compare(seed, case, calls, told + [case.sets[chosen] for chosen in looked_at])

    def test_kth_with_dominated_and_frontier(self):
        for seed in range(600):
            case = Case(seed)
            places = [0, 1, len(case.least) - 1, len(case.least), case.source.randrange(len(case.least))]
            calls = [kth(place) for place in places] + [with_offer(k) for k in range(len(case.offers))]
            told = [case.told_kth(place) for place in places]
            told += [case.told_with(k) for k in range(len(case.offers))]
            calls += [dominated(), frontier()]
            self.compare(seed, case, calls, told + [case.told_dominated(), case.told_frontier()])

    def test_prove_and_check(self):
        for seed in range(600):
            case = Case(seed)
            proof = case.proof()
            calls = [prove(), check(case.lowest, *proof), check(case.lowest + 1, *proof)]
            told = [case.told_prove(), [1], [0]]
            for tree, highest in [case.random_tree() for k in range(10)]:
                if len(tree) <= 600:
                    calls += [check(max(highest, 0), *tree), check(max(highest, 0) + 1, *tree)]
                    told += [[1 if highest >= 0 else 0], [0]]
            self.compare(seed, case, calls, told)


if __name__ == "__main__":
    unittest.main()
