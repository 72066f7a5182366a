"""The earliest: when hands would work without a bell, none being put off."""

from beltshift.order import work_order
from beltshift.rooms import comings


def earliest(room, many):
    """A list of the rows of moments, one for each hand, at which its first many works begin."""
    plan = [(hand, comings(room, hand)) for hand in work_order(room)]
    begins = [[] for hand in room[0]]
    for work in range(many):
        # In this order, over belts without trays, the giver's work of the same number stands there already.
        for hand, coming in plan:
            begins[hand].append(first_moment(room, begins, hand, coming))
    return begins


def first_moment(room, begins, hand, coming):
    """The moment at which a hand's next work begins, of the belts that come to it."""
    work = len(begins[hand])
    moments = [0]
    if work > 0:
        moments.append(over_at(room, begins, hand, work - 1))
    for number in coming:
        giver, taker, things = room[1][number]
        if work >= len(things):
            moments.append(over_at(room, begins, giver, work - len(things)))
    return max(moments)


def over_at(room, begins, hand, work):
    """The moment at which a hand's work of a number is over."""
    return begins[hand][work] + room[0][hand][1]
