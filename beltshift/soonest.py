"""The fewest bells that shifts wait which reach a time."""

from beltshift.grounds import ground_shifts, ground_steps
from beltshift.least import shifts_or_bar
from beltshift.levels import levels_or_ring
from beltshift.rooms import IN_RULE, doors_out
from beltshift.walks import heavy_ways, walk_trays


def soonest(room, late, time):
    """(many, shifts, walk): the fewest bells to wait, shifts that do, a walk that bars fewer, or None; or None."""
    if shifts_or_bar(room, late, time)[0] == "bar":
        return None
    ways, steps = ground_steps(room, late, time)
    many = late if doors_out(room) else 0
    walk = None
    levels, path = levels_or_path(room, steps, many)
    while path is not None:
        walk = tuple([ways[number] for number in path])
        many = sum([steps[number][2] for number in path])
        levels, path = levels_or_path(room, steps, many)
    return (many, ground_shifts(room, late, levels), walk)


def levels_or_path(room, steps, many):
    """(levels, None), levels with no hand more than many above the ground; or (None, path).

    Path is a list of the numbers of steps from the ground to a hand that need more than many together.
    """
    ground = len(room[0])
    caps = [(hand, ground, -many) for hand in range(ground)]
    levels, ring = levels_or_ring(ground + 1, steps + caps)
    if ring is None:
        return (levels, None)
    # The steps by themselves can be met, so the ring has a cap; one alone, since it comes to the ground once.
    cap = max(ring)
    behind = ring.index(cap) + 1
    return (None, ring[behind:] + ring[:behind - 1])


def walk_holds(room, late, time, many, walk):
    """Whether a tuple of pairs is a walk from an in door with just so many more heavy ways than trays."""
    trays = walk_trays(room, late, walk)
    if trays is None or room[0][walk[0][0]][0] != IN_RULE:
        return False
    return heavy_ways(room, time, walk) == trays + many
