"""The object on which the calls are made."""

from leastindexes.choosing import Offer, cheapest_way, is_set, question_costs, set_cost, set_room, sets_within
from leastindexes.reading import NotWhole, read_index, read_question, read_table
from leastindexes.words import count_rows

NOT_WHOLE = -1
NOT_THERE = -2
OUT_OF_RANGE = -3
NOT_A_SET = -4
FULL = -6

MOST_QUESTIONS = 6
MOST_OFFERS = 8
HIGHEST_UPKEEP = 1000000000
HIGHEST_ROOM = 1000000000


class Advisor:
    """A table, questions, offers and the room. All calls but take_table need a table."""

    def __init__(self):
        self.table = None
        self.questions = []
        self.offers = []
        self.room = 0

    def has_table(self):
        return self.table is not None

    def take_table(self, told):
        try:
            table = read_table(told)
        except NotWhole:
            return [NOT_WHOLE]
        self.table = table
        self.questions = []
        self.offers = []
        self.room = 0
        return [count_rows(table.groups)]

    def take_question(self, told):
        try:
            question = read_question(told, self.table.width)
        except NotWhole:
            return [NOT_WHOLE]
        if len(self.questions) == MOST_QUESTIONS:
            return [FULL]
        self.questions.append(question)
        return [len(self.questions) - 1]

    def take_index(self, upkeep, told):
        if upkeep < 0 or upkeep > HIGHEST_UPKEEP:
            return [OUT_OF_RANGE]
        try:
            index = read_index(told, self.table.width)
        except NotWhole:
            return [NOT_WHOLE]
        if len(self.offers) == MOST_OFFERS:
            return [FULL]
        offer = Offer(index, upkeep, index.room_for(self.table))
        self.offers.append(offer)
        return [len(self.offers) - 1, offer.room]

    def take_room(self, room):
        if room < 0 or room > HIGHEST_ROOM:
            return [OUT_OF_RANGE]
        self.room = room
        return [room]

    def tell_costs(self, number):
        if number < 0 or number >= len(self.questions):
            return [NOT_THERE]
        ways = question_costs(self.table, self.questions[number], self.offers)
        return [ways[0], len(self.offers)] + ways[1:]

    def tell_cost(self, chosen):
        if not is_set(chosen, len(self.offers)):
            return [NOT_A_SET]
        costs = self.all_costs()
        answer = [set_cost(costs, self.offers, chosen), set_room(self.offers, chosen)]
        return answer + [cheapest_way(ways, chosen) for ways in costs]

    def tell_least(self):
        costs = self.all_costs()
        sets = sets_within(self.offers, self.room)
        set_costs = [set_cost(costs, self.offers, chosen) for chosen in sets]
        least = min(set_costs)
        first = sets[set_costs.index(least)]
        return [least, set_costs.count(least), len(first)] + first

    def all_costs(self):
        return [question_costs(self.table, question, self.offers) for question in self.questions]
