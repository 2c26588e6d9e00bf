"""Proofs that no set within a room costs less than a told cost."""

from leastindexes.choosing import asking_cost, set_room, set_upkeep
from leastindexes.reading import NotWhole, Reader

SPLIT = 0
BOUND = 1
NO_ROOM = 2

DEEPEST_SPLIT = 9


def read_proof(told):
    """The proof's steps: a split stands ahead of its first part, and this ahead of the second one."""
    reader = Reader(told)
    steps = []
    # For each part that is still to come: in how many splits it stands.
    waiting = [0]
    while len(waiting) > 0:
        depth = waiting.pop()
        step = reader.take(SPLIT, NO_ROOM)
        steps.append(step)
        if step == SPLIT:
            if depth == DEEPEST_SPLIT:
                raise NotWhole()
            waiting.extend([depth + 1, depth + 1])
    reader.finish()
    return steps


class Place:
    """A place in a proof: how many offers are looked at there, and which ones of these are chosen."""

    def __init__(self, looked_at, chosen):
        self.looked_at = looked_at
        self.chosen = chosen

    def parts(self):
        """The places of a split's parts, the first one last: places that wait are taken from the end."""
        behind = self.looked_at + 1
        return [Place(behind, self.chosen), Place(behind, self.chosen + [self.looked_at])]


class Prover:
    """Makes and checks proofs; costs has the question_costs of each question."""

    def __init__(self, costs, offers, room):
        self.costs = costs
        self.offers = offers
        self.room = room

    def lowest_cost(self, place):
        """What a set with the place's choice costs at least: offers not looked at yet count without upkeep."""
        unseen = list(range(place.looked_at, len(self.offers)))
        return asking_cost(self.costs, place.chosen + unseen) + set_upkeep(self.offers, place.chosen)

    def holds(self, step, place, cost):
        """Whether a bound or room holds, or a split has an offer to look at."""
        if step == SPLIT:
            return place.looked_at < len(self.offers)
        if step == BOUND:
            return cost <= self.lowest_cost(place)
        return set_room(self.offers, place.chosen) > self.room

    def made_step(self, place, cost):
        for step in (NO_ROOM, BOUND):
            if self.holds(step, place, cost):
                return step
        return SPLIT

    def made_proof(self, least):
        """The steps of the proof that's made. With all offers looked at a bound holds, as nothing costs less."""
        steps = []
        waiting = [Place(0, [])]
        while len(waiting) > 0:
            place = waiting.pop()
            step = self.made_step(place, least)
            steps.append(step)
            if step == SPLIT:
                waiting.extend(place.parts())
        return steps

    def accepts(self, steps, cost):
        """Whether the steps, which are whole a proof, prove the cost."""
        waiting = [Place(0, [])]
        for step in steps:
            place = waiting.pop()
            if not self.holds(step, place, cost):
                return False
            if step == SPLIT:
                waiting.extend(place.parts())
        return True
