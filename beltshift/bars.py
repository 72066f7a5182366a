"""Bars: walks that show that no shifts reach a time."""

from beltshift.walks import closed_trays, heavy_ways


def bar_holds(room, late, time, bar):
    """Whether a tuple of pairs is a bar of a time by a lateness; late None is any."""
    trays = closed_trays(room, late, bar)
    return trays is not None and heavy_ways(room, time, bar) > trays
