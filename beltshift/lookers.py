"""Whether shifts reach a time, whoever told them."""

from beltshift.errors import NoShift
from beltshift.rooms import doors_out
from beltshift.shifts import look_shifts, trays_moved
from beltshift.ways import time_of


def shifts_hold(room, late, time, shifts):
    """Whether shifts are let by and each way without trays, moved so, has at most this time; late None is any."""
    told = own_late(room, shifts) if late is None else late
    if late is None and told < 0:
        return False
    try:
        look_shifts(room, told, shifts)
    except NoShift:
        return False
    return time_of(with_trays(room, trays_moved(room, shifts))) <= time


def own_late(room, shifts):
    """The lateness that shifts have by the first out door; 0 where there is none."""
    doors = doors_out(room)
    return shifts[doors[0]] if doors else 0


def with_trays(room, trays):
    """The room with one tray on each belt that is told to have some, none on the others."""
    hands, belts = room
    changed = [(giver, taker, (0,) if many else ()) for (giver, taker, things), many in zip(belts, trays)]
    return (hands, tuple(changed))
