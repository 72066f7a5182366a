"""Bells: what hands make, and what then lies on the belts."""

from beltshift.order import work_order
from beltshift.rooms import comings, doors_in, doors_out
from beltshift.rules import made_by


def run(room, rows):
    """A list of what the out doors make at each bell, a tuple each."""
    doors = doors_out(room)
    return [picked(made, doors) for made in worked(room, rows)]


def worked(room, rows):
    """A list of what all hands make at each bell, a tuple each."""
    plan = work_plan(room)
    stands = room
    told = []
    for things in rows:
        made = made_at_bell(stands, plan, things)
        stands = behind_bell(stands, made)
        told.append(made)
    return told


def standing(room, rows):
    """The room as it stands behind the bells of these rows."""
    stands = room
    for made in worked(room, rows):
        stands = behind_bell(stands, made)
    return stands


def picked(made, doors):
    """A tuple of what these hands made."""
    return tuple([made[door] for door in doors])


def work_plan(room):
    """A list of the hands, in the order of work, each with the belts that come to it."""
    return [(hand, comings(room, hand)) for hand in work_order(room)]


def made_at_bell(room, plan, things):
    """A tuple of what each hand makes at the next bell of a room, where these things come in."""
    hands, belts = room
    made = dict(zip(doors_in(room), things))
    for hand, coming in plan:
        if hand not in made:
            taken = [thing_taken(belts[number], made) for number in coming]
            made[hand] = made_by(hands[hand][0], tuple(taken))
    return tuple([made[hand] for hand in range(len(hands))])


def thing_taken(belt, made):
    """What is taken from a belt at a bell at which its giver, if the belt is without trays, made its thing already."""
    giver, taker, things = belt
    return things[0] if things else made[giver]


def behind_bell(room, made):
    """The room as it stands behind one bell at which the hands made these things."""
    hands, belts = room
    return (hands, tuple([belt_behind_bell(belt, made) for belt in belts]))


def belt_behind_bell(belt, made):
    """The belt when its trays have gone on by one."""
    giver, taker, things = belt
    return (giver, taker, things[1:] + (made[giver],)) if things else belt


class Run:
    """A room begun."""

    def __init__(self, room):
        self.stands = room
        self.plan = work_plan(room)
        self.doors = doors_out(room)
        self.many = 0

    def bell(self, things):
        """What goes out, a tuple, at a bell at which these things come in."""
        made = made_at_bell(self.stands, self.plan, things)
        self.stands = behind_bell(self.stands, made)
        self.many += 1
        return picked(made, self.doors)

    def bells(self):
        """How many bells there were."""
        return self.many

    def room(self):
        """The room as it stands."""
        return self.stands
