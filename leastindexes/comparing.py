"""Offers that are needless: another one dominates them, or they're idle."""

from leastindexes.choosing import NOT_SERVED, asking_cost


def costs_no_more(cost, other):
    if other == NOT_SERVED:
        return True
    return cost != NOT_SERVED and cost <= other


def is_as_good(costs, offers, one, other):
    """Whether offer one is as good as the other; costs has the question_costs of each question."""
    if offers[one].upkeep > offers[other].upkeep or offers[one].room > offers[other].room:
        return False
    return all([costs_no_more(ways[one + 1], ways[other + 1]) for ways in costs])


def dominates(costs, offers, one, other):
    if not is_as_good(costs, offers, one, other):
        return False
    return one < other or not is_as_good(costs, offers, other, one)


def dominating(costs, offers, number):
    """The offers that dominate the one with this number."""
    return [one for one in range(len(offers)) if dominates(costs, offers, one, number)]


def is_idle(costs, offers, number):
    saved = asking_cost(costs, []) - asking_cost(costs, [number])
    return saved <= offers[number].upkeep
