"""Bars: walks that show that no shifts reach a time."""

from beltshift.rooms import IN_RULE, OUT_RULE
from beltshift.ways import moments_on, trays_on, way_end


def bar_holds(room, late, time, bar):
    """Whether a tuple of pairs is a bar of a time by a lateness; late None is any."""
    ends = [way_end(room, way) for way in bar]
    if not ends or None in ends:
        return False
    # Ahead of the first way stands the last one, so that this looks at the closing, too.
    steps = [step_trays(room, late, ends[place - 1], way[0]) for place, way in enumerate(bar)]
    if None in steps:
        return False
    trays = sum(steps) + sum([trays_on(room, way) for way in bar])
    return heavy_ways(room, time, bar) > trays


def step_trays(room, late, end, begin):
    """As how many trays it counts to go on from the end of a way to where the next begins; None where none may."""
    if begin == end:
        return 0
    if late is not None and room[0][end][0] == OUT_RULE and room[0][begin][0] == IN_RULE:
        return late
    return None


def heavy_ways(room, time, walk):
    """How many ways of a walk have more moments than a time."""
    return len([way for way in walk if moments_on(room, way) > time])
