"""Offers, sets of them, and what these cost."""

from leastindexes.asking import cost_by_index, cost_by_table

NOT_SERVED = -1


class Offer:
    """An index that may be taken, its upkeep and its room."""

    def __init__(self, index, upkeep, room):
        self.index = index
        self.upkeep = upkeep
        self.room = room


def offer_cost(table, question, offer):
    if not offer.index.serves(question):
        return NOT_SERVED
    return cost_by_index(table, question, offer.index) * question.asked


def question_costs(table, question, offers):
    """All askings' cost by each way: way 0 is the whole table, way k + 1 the offer k."""
    by_table = cost_by_table(table, question) * question.asked
    return [by_table] + [offer_cost(table, question, offer) for offer in offers]


def cheapest_way(ways, chosen):
    """The cheapest way by the whole table and the chosen offers; of those that cost the same the first one."""
    best = 0
    for number in chosen:
        cost = ways[number + 1]
        if cost != NOT_SERVED and cost < ways[best]:
            best = number + 1
    return best


def asking_cost(costs, chosen):
    """What all questions cost by the whole table and the chosen offers; costs has the question_costs of each."""
    return sum([ways[cheapest_way(ways, chosen)] for ways in costs])


def set_upkeep(offers, chosen):
    return sum([offers[number].upkeep for number in chosen])


def set_cost(costs, offers, chosen):
    return asking_cost(costs, chosen) + set_upkeep(offers, chosen)


def set_room(offers, chosen):
    return sum([offers[number].room for number in chosen])


def is_set(numbers, count):
    """Whether the numbers are those of offers, rising, where there are so many offers."""
    lowest = 0
    for number in numbers:
        if number < lowest or number >= count:
            return False
        lowest = number + 1
    return True


def grown_sets(chosen, count):
    """The sets with one offer more, behind the others."""
    first = chosen[-1] + 1 if len(chosen) > 0 else 0
    return [chosen + [number] for number in range(first, count)]


def sets_in_order(count):
    """All sets of so many offers, by their size, then by their numbers."""
    sets = []
    same_size = [[]]
    while len(same_size) > 0:
        sets.extend(same_size)
        larger = []
        for chosen in same_size:
            larger.extend(grown_sets(chosen, count))
        same_size = larger
    return sets


def sets_within(offers, room):
    return [chosen for chosen in sets_in_order(len(offers)) if set_room(offers, chosen) <= room]


def least_sets(costs, offers, room):
    """The sets that cost least within the room, in order."""
    sets = sets_within(offers, room)
    set_costs = [set_cost(costs, offers, chosen) for chosen in sets]
    least = min(set_costs)
    return [chosen for chosen, cost in zip(sets, set_costs) if cost == least]


def least_steps(costs, offers):
    """The rooms, rising, at which the least cost gets less, each with that cost."""
    sets = sets_in_order(len(offers))
    pairs = sorted([(set_room(offers, chosen), set_cost(costs, offers, chosen)) for chosen in sets])
    steps = []
    for room, cost in pairs:
        if len(steps) == 0 or cost < steps[-1][1]:
            steps.append((room, cost))
    return steps
