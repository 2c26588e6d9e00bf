"""Answers a list of calls on one object."""

from leastindexes.advisor import Advisor

NO_TABLE = -8

TABLE = 0
QUESTION = 1
INDEX = 2
ROOM = 3
COSTS = 4
COST = 5
LEAST = 6
KTH = 7
WITH_OFFER = 8
DOMINATED = 9
PROVE = 10
CHECK = 11

# By the calls' numbers: index, room, costs, kth, with_offer and check.
HAVE_NUMBER = (2, 3, 4, 7, 8, 11)
# By the calls' numbers: table, question, index, cost and check.
HAVE_ROW = (0, 1, 2, 5, 11)


class Call:
    """A call's number, its whole number (0 if it has none) and its row (empty if it has none)."""

    def __init__(self, kind, number, row):
        self.kind = kind
        self.number = number
        self.row = row


def read_calls(calls):
    read = []
    place = 0
    while place < len(calls):
        kind = calls[place]
        place += 1
        number = 0
        if kind in HAVE_NUMBER:
            number = calls[place]
            place += 1
        row = []
        if kind in HAVE_ROW:
            behind = place + 1 + calls[place]
            row = calls[place + 1:behind]
            place = behind
        read.append(Call(kind, number, row))
    return read


def answer_to_change(advisor, call):
    """The calls that change what is there; the one that is left at the end is room."""
    if call.kind == QUESTION:
        return advisor.take_question(call.row)
    if call.kind == INDEX:
        return advisor.take_index(call.number, call.row)
    return advisor.take_room(call.number)


def answer_to_other(advisor, call):
    """The calls that change nothing; the one that is left at the end is frontier."""
    if call.kind == COSTS:
        return advisor.tell_costs(call.number)
    if call.kind == COST:
        return advisor.tell_cost(call.row)
    if call.kind == LEAST:
        return advisor.tell_least()
    if call.kind == KTH:
        return advisor.tell_kth(call.number)
    if call.kind == WITH_OFFER:
        return advisor.tell_with(call.number)
    if call.kind == DOMINATED:
        return advisor.tell_dominated()
    if call.kind == PROVE:
        return advisor.tell_proof()
    if call.kind == CHECK:
        return advisor.tell_check(call.number, call.row)
    return advisor.tell_frontier()


def answer_to(advisor, call):
    if call.kind == TABLE:
        return advisor.take_table(call.row)
    if not advisor.has_table():
        return [NO_TABLE]
    if call.kind in (QUESTION, INDEX, ROOM):
        return answer_to_change(advisor, call)
    return answer_to_other(advisor, call)


def answers(calls):
    advisor = Advisor()
    given = []
    for call in read_calls(calls):
        answer = answer_to(advisor, call)
        given.append(len(answer))
        given.extend(answer)
    return given
