"""The object on which the calls are made."""

from leastindexes.choosing import (
    Offer, cheapest_way, is_set, least_sets, least_steps, question_costs, set_cost, set_room, sets_within,
)
from leastindexes.comparing import dominating, is_idle
from leastindexes.proving import SPLIT, Prover, read_proof
from leastindexes.reading import NotWhole, read_index, read_question, read_table
from leastindexes.words import count_rows

NOT_WHOLE = -1
NOT_THERE = -2
OUT_OF_RANGE = -3
NOT_A_SET = -4
BELOW_NONE = -4
NOT_A_PROOF = -4
FULL = -6

NO_SET = -1
MATTERS = -1
IDLE = -2

MOST_QUESTIONS = 6
MOST_OFFERS = 8
HIGHEST_UPKEEP = 1000000000
HIGHEST_ROOM = 1000000000


class Advisor:
    """A table, questions, offers and the room. All calls but take_table need a table."""

    def __init__(self):
        self.table = None
        self.questions = []
        self.offers = []
        self.room = 0

    def has_table(self):
        return self.table is not None

    def take_table(self, told):
        try:
            table = read_table(told)
        except NotWhole:
            return [NOT_WHOLE]
        self.table = table
        self.questions = []
        self.offers = []
        self.room = 0
        return [count_rows(table.groups)]

    def take_question(self, told):
        try:
            question = read_question(told, self.table.width)
        except NotWhole:
            return [NOT_WHOLE]
        if len(self.questions) == MOST_QUESTIONS:
            return [FULL]
        self.questions.append(question)
        return [len(self.questions) - 1]

    def take_index(self, upkeep, told):
        if upkeep < 0 or upkeep > HIGHEST_UPKEEP:
            return [OUT_OF_RANGE]
        try:
            index = read_index(told, self.table.width)
        except NotWhole:
            return [NOT_WHOLE]
        if len(self.offers) == MOST_OFFERS:
            return [FULL]
        offer = Offer(index, upkeep, index.room_for(self.table))
        self.offers.append(offer)
        return [len(self.offers) - 1, offer.room]

    def take_room(self, room):
        if room < 0 or room > HIGHEST_ROOM:
            return [OUT_OF_RANGE]
        self.room = room
        return [room]

    def tell_costs(self, number):
        if number < 0 or number >= len(self.questions):
            return [NOT_THERE]
        ways = question_costs(self.table, self.questions[number], self.offers)
        return [ways[0], len(self.offers)] + ways[1:]

    def tell_cost(self, chosen):
        if not is_set(chosen, len(self.offers)):
            return [NOT_A_SET]
        costs = self.all_costs()
        answer = [set_cost(costs, self.offers, chosen), set_room(self.offers, chosen)]
        return answer + [cheapest_way(ways, chosen) for ways in costs]

    def tell_least(self):
        costs = self.all_costs()
        sets = least_sets(costs, self.offers, self.room)
        return [set_cost(costs, self.offers, sets[0]), len(sets), len(sets[0])] + sets[0]

    def tell_kth(self, place):
        if place < 0:
            return [BELOW_NONE]
        sets = least_sets(self.all_costs(), self.offers, self.room)
        if place >= len(sets):
            return [0]
        return [1, len(sets[place])] + sets[place]

    def tell_with(self, number):
        if number < 0 or number >= len(self.offers):
            return [NOT_THERE]
        costs = self.all_costs()
        sets = sets_within(self.offers, self.room)
        having = [set_cost(costs, self.offers, chosen) for chosen in sets if number in chosen]
        lacking = [set_cost(costs, self.offers, chosen) for chosen in sets if number not in chosen]
        return [min(having, default=NO_SET), min(lacking)]

    def tell_dominated(self):
        costs = self.all_costs()
        standings = [self.standing(costs, number) for number in range(len(self.offers))]
        mattering = [number for number, standing in enumerate(standings) if standing == MATTERS]
        return standings + [len(mattering)] + mattering

    def tell_proof(self):
        costs = self.all_costs()
        first = least_sets(costs, self.offers, self.room)[0]
        least = set_cost(costs, self.offers, first)
        steps = Prover(costs, self.offers, self.room).made_proof(least)
        return [least, len(steps) - steps.count(SPLIT)] + steps

    def tell_check(self, cost, told):
        if cost < 0:
            return [OUT_OF_RANGE]
        try:
            steps = read_proof(told)
        except NotWhole:
            return [NOT_A_PROOF]
        prover = Prover(self.all_costs(), self.offers, self.room)
        return [1 if prover.accepts(steps, cost) else 0]

    def tell_frontier(self):
        steps = least_steps(self.all_costs(), self.offers)
        answer = [len(steps)]
        for room, cost in steps:
            answer.extend([room, cost])
        return answer

    def all_costs(self):
        return [question_costs(self.table, question, self.offers) for question in self.questions]

    def standing(self, costs, number):
        """The first offer that dominates this one; if there's none, whether it's idle or matters."""
        better = dominating(costs, self.offers, number)
        if len(better) > 0:
            return better[0]
        return IDLE if is_idle(costs, self.offers, number) else MATTERS
