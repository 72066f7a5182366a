"""Rooms moved: the same hands, with other trays on the belts, that go on as the first room would."""

from beltshift.rooms import doors_in
from beltshift.runs import worked
from beltshift.shifts import look_shifts, trays_moved, waits


def moved(room, late, shifts, rows):
    """The room moved by shifts, with the rows that come in while these wait; else NoShift."""
    look_shifts(room, late, shifts)
    hands, belts = room
    bells = waits(shifts)
    made = worked(room, rows_on(room, shifts, rows))
    after = []
    for (giver, taker, things), trays in zip(belts, trays_moved(room, shifts)):
        first = bells - shifts[taker]
        taken = [taken_at((giver, taker, things), made, bell) for bell in range(first, first + trays)]
        after.append((giver, taker, tuple(taken)))
    return (hands, tuple(after))


def rows_on(room, shifts, rows):
    """The rows, and rows of noughts for the bells to which hands with shifts below 0 are ahead.

    Let by, shifts ask for nothing that leans on what comes in at those bells, so any things do.
    """
    noughts = tuple([0 for door in doors_in(room)])
    return list(rows) + [noughts] * -min((0,) + shifts)


def taken_at(belt, made, bell):
    """What is taken from a belt of a room at a bell, where made tells what all hands made at each bell."""
    giver, taker, things = belt
    return things[bell] if bell < len(things) else made[bell - len(things)][giver]
