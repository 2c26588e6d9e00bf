"""Builds lists of calls, and takes what is given back apart again."""

from leastindexes.offers import answers

HUGE = 10 ** 18
BILLION = 10 ** 9

# Every call but table, as it may stand without regard to what is there.
OTHER_CALLS = {
    "question": [1, 5, 0, 0, 0, 0, 0],
    "index": [2, 0, 4, 1, 0, 0, 0],
    "room": [3, 5],
    "costs": [4, 0],
    "cost": [5, 0],
    "least": [6],
    "kth": [7, 0],
    "with_offer": [8, 0],
    "dominated": [9],
    "prove": [10],
    "check": [11, 0, 1, 1],
    "frontier": [12],
}


def table(*numbers):
    return [0, len(numbers), *numbers]


def question(*numbers):
    return [1, len(numbers), *numbers]


def index(upkeep, *numbers):
    return [2, upkeep, len(numbers), *numbers]


def room(number):
    return [3, number]


def costs(number):
    return [4, number]


def cost(*numbers):
    return [5, len(numbers), *numbers]


def least():
    return [6]


def kth(place):
    return [7, place]


def with_offer(number):
    return [8, number]


def dominated():
    return [9]


def prove():
    return [10]


def check(told_cost, *proof):
    return [11, told_cost, len(proof), *proof]


def frontier():
    return [12]


def question_numbers(filters=(), order=(), backwards=0, wanted=(), limit=0, asked=1):
    numbers = [len(filters)]
    for each in filters:
        numbers.extend(each)
    numbers += [len(order), *order, backwards, len(wanted), *wanted]
    return numbers + [limit, asked]


def index_numbers(keys, included=(), condition=None):
    numbers = [len(keys), *keys, len(included), *included]
    return numbers + ([0] if condition is None else [1, *condition])


def table_numbers(width, groups):
    """The groups are pairs: the values, how many rows."""
    numbers = [width, len(groups)]
    for values, rows in groups:
        numbers += [*values, rows]
    return numbers


def ask(**parts):
    return question(*question_numbers(**parts))


def offer(keys, included=(), condition=None, upkeep=0):
    return index(upkeep, *index_numbers(keys, included, condition))


def table_of(width, groups):
    return table(*table_numbers(width, groups))


def split(given):
    """What is given back, as a list for each call."""
    answered = []
    place = 0
    while place < len(given):
        behind = place + 1 + given[place]
        answered.append(given[place + 1:behind])
        place = behind
    assert place == len(given), "the last answer is cut short"
    return answered


def run(*calls):
    """The answers to all calls, made on one object."""
    return split(answers([number for call in calls for number in call]))


def last(*calls):
    return run(*calls)[-1]


EXAMPLE_TABLE = table(2, 4, 1, 5, 3, 1, 7, 2, 2, 5, 4, 3, 9, 1)
EXAMPLE = (
    EXAMPLE_TABLE,
    question(1, 0, 1, 1, 1, 1, 0, 1, 1, 2, 5),
    question(1, 1, 5, 5, 0, 0, 1, 0, 0, 2),
    index(10, 2, 0, 1, 0, 0),
    index(3, 1, 1, 1, 0, 0),
    index(3, 1, 1, 0, 0),
    index(50, 1, 0, 0, 1, 0, 2, 3),
)

# What shows all that an object keeps: costs of each question, the offers' upkeep and room, the room.
LOOK = tuple(costs(number) for number in range(6)) + tuple(cost(number) for number in range(8)) + (least(),)


def state_behind(*calls):
    return run(*calls, *LOOK)[len(calls):]
