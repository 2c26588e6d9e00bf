"""Costs, sets and least sets against a second way to find them: row by row, from the words alone."""

import itertools
import random
import unittest

from tests.helper import ask, cost, costs, least, offer, room, run, table_of


def rows_of(groups):
    return [values for values, count in groups for repeat in range(count)]


def passes(row, filters):
    return all(low <= row[column] <= high for column, low, high in filters)


def is_equal(asked, column):
    return any(each == column and low == high for each, low, high in asked["filters"])


def one_by_one(rows, asked, touch, looked_up, order_is_free):
    """Touches rows one after another; looked_up tells whether one is."""
    spent = 0
    found = 0
    for row in rows:
        spent += touch + (4 if looked_up(row) else 0)
        if passes(row, asked["filters"]):
            found += 1
            if order_is_free and found == asked["limit"]:
                break
    return spent + (0 if order_is_free else 3 * found)


def by_table(groups, asked):
    order = [column for column in asked["order"] if not is_equal(asked, column)]
    return one_by_one(rows_of(groups), asked, 2, lambda row: False, not order) * asked["asked"]


def serves(indexed, asked):
    if indexed["condition"] is None:
        return True
    column, low, high = indexed["condition"]
    own = [each for each in asked["filters"] if each[0] == column]
    return any(set(range(a, b + 1)) <= set(range(low, high + 1)) for column, a, b in own)


def range_filters(indexed, asked):
    told = {column: (column, low, high) for column, low, high in asked["filters"]}
    used = []
    for key in indexed["keys"]:
        if key in told:
            used.append(told[key])
        if not is_equal(asked, key):
            break
    return used


def by_index(groups, asked, indexed):
    if not serves(indexed, asked):
        return -1
    keys = indexed["keys"]
    own = set(keys) | set(indexed["included"])
    entries = [row for row in rows_of(groups) if indexed["condition"] is None or passes(row, [indexed["condition"]])]
    entries = [row for row in entries if passes(row, range_filters(indexed, asked))]
    for key in reversed(keys):
        entries.sort(key=lambda row: row[key])
    if asked["backwards"]:
        entries.reverse()
    needed = {each[0] for each in asked["filters"]} | set(asked["order"]) | set(asked["wanted"])
    known = [each for each in asked["filters"] if each[0] in own]
    order = [column for column in asked["order"] if not is_equal(asked, column)]
    loose = [column for column in keys if not is_equal(asked, column)]
    free = loose[:len(order)] == order
    covered = needed <= own
    return one_by_one(entries, asked, 1, lambda row: not covered and passes(row, known), free) * asked["asked"]


def room_of(groups, indexed):
    entries = [row for row in rows_of(groups) if indexed["condition"] is None or passes(row, [indexed["condition"]])]
    return len(entries) * (len(indexed["keys"]) + len(indexed["included"]) + 1)


def set_answer(ways, offers, rooms, chosen):
    """What cost answers; ways has for each question its costs, the table's first."""
    total = sum(offers[k]["upkeep"] for k in chosen)
    picked = []
    for costs_of_one in ways:
        possible = [0] + [k + 1 for k in chosen if costs_of_one[k + 1] >= 0]
        spent, way = min((costs_of_one[way], way) for way in possible)
        total += spent
        picked.append(way)
    return [total, sum(rooms[k] for k in chosen)] + picked


def all_sets(count):
    return [chosen for size in range(count + 1) for chosen in itertools.combinations(range(count), size)]


class Maker:
    """Makes tables, questions and offers, the same ones for the same seed."""

    def __init__(self, seed):
        self.source = random.Random(seed)
        self.width = self.source.randint(1, 4)
        self.highest = self.source.choice((1, 2, 3, 9))

    def groups(self):
        cells = [tuple(self.source.randint(0, self.highest) for column in range(self.width)) for k in range(12)]
        unlike = list(dict.fromkeys(cells))[:self.source.randint(0, 12)]
        return [(values, self.source.randint(1, 4)) for values in unlike]

    def columns(self, fewest=0):
        return self.source.sample(range(self.width), self.source.randint(fewest, self.width))

    def filter(self, column):
        ends = [self.source.randint(0, self.highest) for end in range(2)]
        if self.source.random() < 0.4:
            ends[1] = ends[0]
        return (column, min(ends), max(ends))

    def question(self):
        return {
            "filters": [self.filter(column) for column in self.columns()],
            "order": self.columns(),
            "backwards": self.source.randint(0, 1),
            "wanted": self.columns() if self.source.random() < 0.5 else [],
            "limit": self.source.choice((0, 1, 2, 3, 5, 8, 13, 100)),
            "asked": self.source.randint(0, 3),
        }

    def offer(self):
        columns = self.columns(1)
        keys = self.source.randint(1, len(columns))
        condition = None
        if self.source.random() < 0.4:
            condition = self.filter(self.source.randrange(self.width))
        return {
            "keys": columns[:keys], "included": columns[keys:], "condition": condition,
            "upkeep": self.source.randint(0, 8),
        }


class RowByRowTest(unittest.TestCase):

    def check(self, seed):
        maker = Maker(seed)
        groups = maker.groups()
        questions = [maker.question() for k in range(maker.source.randint(0, 6))]
        offers = [maker.offer() for k in range(maker.source.randint(0, 8))]
        rooms = [room_of(groups, each) for each in offers]
        given = maker.source.randint(0, sum(rooms) + 1)
        ways = [[by_table(groups, asked)] + [by_index(groups, asked, each) for each in offers] for asked in questions]
        sets = {chosen: set_answer(ways, offers, rooms, chosen) for chosen in all_sets(len(offers))}
        within = {chosen: told[0] for chosen, told in sets.items() if told[1] <= given}
        first = min(within, key=lambda chosen: within[chosen])
        lowest = within[first]
        looked_at = maker.source.sample(list(sets), min(len(sets), 12))

        calls = [table_of(maker.width, groups)] + [ask(**asked) for asked in questions]
        calls += [offer(**each) for each in offers] + [room(given)]
        calls += [costs(k) for k in range(len(questions))] + [least()] + [cost(*chosen) for chosen in looked_at]
        told = [[len(rows_of(groups))]] + [[k] for k in range(len(questions))]
        told += [[k, rooms[k]] for k in range(len(offers))] + [[given]]
        told += [[each[0], len(offers)] + each[1:] for each in ways]
        told += [[lowest, list(within.values()).count(lowest), len(first), *first]]
        told += [sets[chosen] for chosen in looked_at]
        self.assertEqual(run(*calls), told)

    def test_many(self):
        for seed in range(600):
            with self.subTest(seed=seed):
                self.check(seed)


if __name__ == "__main__":
    unittest.main()
