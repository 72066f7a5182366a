"""Rooms filled: a tray at least on each belt."""

from beltshift.least import jumps, shifts_by
from beltshift.levels import levels_or_ring
from beltshift.slowed import slowed
from beltshift.walks import closed_trays


def full_shifts(room, late):
    """("shifts", shifts that fill a room by a lateness) or ("ring", a ring that bars them); late None is any."""
    hands, belts = room
    steps = [(giver, taker, 1 - len(things)) for giver, taker, things in belts]
    levels, ring = levels_or_ring(len(hands), steps + jumps(room, late))
    if ring is None:
        return ("shifts", shifts_by(room, late, levels))
    # A jump is no way: a walk shows it by where its ways begin.
    return ("ring", tuple([(belts[number][0], (number,)) for number in ring if number < len(belts)]))


def ring_holds(room, late, ring):
    """Whether a tuple of pairs is a closed walk with more belts than trays; late None is any."""
    trays = closed_trays(room, late, ring)
    return trays is not None and sum([len(numbers) for begin, numbers in ring]) > trays


def least_slowing(room):
    """(k, shifts, ring): the least slowing with which shifts fill a room, such shifts, a ring that bars less, or None.

    This ends: each ring of a room has a tray, so slowed as often as it has belts no ring lacks any.
    """
    k = 1
    ring = None
    word, paper = full_shifts(room, None)
    while word == "ring":
        ring = paper
        k += 1
        word, paper = full_shifts(slowed(room, k), None)
    return (k, paper, ring)
