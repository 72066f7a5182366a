"""Floors: rooms without bells, in which each hand works where what it takes is there."""

from beltshift.errors import NotReady
from beltshift.rooms import IN_RULE, comings, goings
from beltshift.rules import made_by


class Floor:
    """A room without bells, begun.

    What lies on belts, and what was given to in doors, are lists, the thing that is taken first being first.
    """

    def __init__(self, room):
        hands, belts = room
        numbers = list(range(len(hands)))
        self.rules = [rule for rule, moments in hands]
        self.given = {hand: [] for hand in numbers if hands[hand][0] == IN_RULE}
        self.lying = [list(things) for giver, taker, things in belts]
        self.coming = [comings(room, hand) for hand in numbers]
        self.going = [goings(room, hand) for hand in numbers]
        self.done = [[] for hand in numbers]

    def give(self, hand, thing):
        """Gives a thing to an in door."""
        self.given[hand].append(thing)

    def ready(self):
        """A rising list of the hands that can work."""
        return [hand for hand in range(len(self.rules)) if self.can_work(hand)]

    def work(self, hand):
        """The thing that a hand makes of what it then takes; else NotReady."""
        if not self.can_work(hand):
            raise NotReady(hand)
        taken = tuple([things[0] for things in self.sources(hand)])
        for things in self.sources(hand):
            things.pop(0)
        thing = taken[0] if hand in self.given else made_by(self.rules[hand], taken)
        for belt in self.going[hand]:
            self.lying[belt].append(thing)
        self.done[hand].append(thing)
        return thing

    def made(self, hand):
        """A list of the things that a hand made till now."""
        return list(self.done[hand])

    def can_work(self, hand):
        """Whether all is there that a hand takes."""
        return all([len(things) > 0 for things in self.sources(hand)])

    def sources(self, hand):
        """A list of the lists from which a hand takes."""
        if hand in self.given:
            return [self.given[hand]]
        return [self.lying[belt] for belt in self.coming[hand]]
