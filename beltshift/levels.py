"""Levels of places, where each step from place to place needs the one to lie so much above the other."""


def levels_or_ring(many, steps):
    """Of so many places, and steps, a list of (from, to, need): (levels, None), or (None, ring).

    Levels are a list of the least numbers from 0 on such that each step's end lies at least its need above where it
    begins. Where there are none, ring is a list of steps' numbers that lead round and need more than 0 together.
    """
    levels = [0] * many
    last = [None] * many
    raised = None
    for turn in range(many):
        raised = raise_levels(levels, last, steps)
        if raised is None:
            break
    if raised is None:
        return (levels, None)
    return (None, ring_behind(raised, last, steps))


def raise_levels(levels, last, steps):
    """Raises levels to what each step needs, noting in last by which; a place that was raised, or None."""
    raised = None
    for number, (begin, end, need) in enumerate(steps):
        if levels[begin] + need > levels[end]:
            levels[end] = levels[begin] + need
            last[end] = number
            raised = end
    return raised


def ring_behind(place, last, steps):
    """The steps of the ring to which last leads back from a place that was raised as often as there are places."""
    # So many steps back lead onto the ring, from wherever they begin.
    for turn in range(len(last)):
        place = steps[last[place]][0]
    ring = [last[place]]
    here = steps[last[place]][0]
    while here != place:
        ring.append(last[here])
        here = steps[last[here]][0]
    return ring[::-1]
