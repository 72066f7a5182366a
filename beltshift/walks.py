"""Walks: ways one behind the other, with jumps from out doors to in doors."""

from beltshift.rooms import IN_RULE, OUT_RULE
from beltshift.ways import moments_on, trays_on, way_end


def walk_trays(room, late, walk):
    """As how many trays a walk's ways and the jumps between them count; None of a tuple of pairs that is no walk."""
    ends = [way_end(room, way) for way in walk]
    if not ends or None in ends:
        return None
    steps = [step_trays(room, late, end, way[0]) for end, way in zip(ends, walk[1:])]
    if None in steps:
        return None
    return sum(steps) + sum([trays_on(room, way) for way in walk])


def closed_trays(room, late, walk):
    """As how many trays a closed walk counts, a jump that closes it, too; None of what is none."""
    trays = walk_trays(room, late, walk)
    if trays is None:
        return None
    closing = step_trays(room, late, way_end(room, walk[-1]), walk[0][0])
    return None if closing is None else trays + closing


def step_trays(room, late, end, begin):
    """As how many trays it counts to go on from the end of a way to where the next begins; None where none may."""
    if begin == end:
        return 0
    if late is not None and room[0][end][0] == OUT_RULE and room[0][begin][0] == IN_RULE:
        return late
    return None


def heavy_ways(room, time, walk):
    """How many ways of a walk have more moments than a time."""
    return len([way for way in walk if moments_on(room, way) > time])
