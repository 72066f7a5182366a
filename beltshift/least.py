"""The least time that moved trays reach, and papers that show it."""

from beltshift.levels import levels_or_ring
from beltshift.rooms import doors_in, doors_out
from beltshift.ways import least_costs, way_back


def shifts_or_bar(room, late, time):
    """("shifts", shifts that reach a time by a lateness) or ("bar", a bar of it); late None is any."""
    return paper_by(room, late, time, least_ways(room))


def least_time(room, late):
    """(time, shifts, bar): the least time by a lateness, shifts that reach it, a bar of the time below, or None."""
    ways = least_ways(room)
    low = 0
    high = max([moments for trays, moments, way, end in ways], default=0)
    word, shifts = paper_by(room, late, high, ways)
    bar = None
    # Throughout, shifts reach high, and bar bars the time below low.
    while low < high:
        middle = (low + high) // 2
        word, paper = paper_by(room, late, middle, ways)
        if word == "shifts":
            high = middle
            shifts = paper
        else:
            low = middle + 1
            bar = paper
    return (high, shifts, bar)


def least_ways(room):
    """A list of (trays, moments, way, end): a way as way_between tells it of each two hands, if one leads there."""
    found = []
    for one in range(len(room[0])):
        costs, last = least_costs(room, one)
        for end in costs:
            trays, less = costs[end]
            found.append((trays, -less, way_back(room, end, last), end))
    return found


def paper_by(room, late, time, ways):
    """What shifts_or_bar tells, by the ways that least_ways tells.

    These are enough: a way with more trays than another between the same hands keeps one wherever that keeps none.
    """
    steps = [(way[0], end, needed(moments, time) - trays) for trays, moments, way, end in ways]
    steps.extend(jumps(room, late))
    levels, ring = levels_or_ring(len(room[0]), steps)
    if ring is None:
        return ("shifts", shifts_by(room, late, levels))
    # A jump is no way: a walk shows it by where its ways begin.
    return ("bar", tuple([ways[number][2] for number in ring if number < len(ways)]))


def needed(moments, time):
    """How many trays a way of so many moments must have."""
    return 1 if moments > time else 0


def jumps(room, late):
    """A list of the steps that keep out doors at most late above in doors; none where late is any."""
    if late is None:
        return []
    return [(door, other, -late) for door in doors_out(room) for other in doors_in(room)]


def shifts_by(room, late, levels):
    """Shifts that meet what levels meet, with those of the doors as they must be.

    No belt comes to an in door and none leaves an out door. So in doors may be lowered to the lowest of them and out
    doors raised, and jumps kept these no farther above than late.
    """
    ins = doors_in(room)
    outs = doors_out(room)
    highest = max([levels[door] for door in outs], default=0)
    told = highest if late is None else late
    # Without in doors it is the highest out door that must come to lie at its place.
    free = highest - told if outs else 0
    ground = min([levels[door] for door in ins], default=free)
    shifts = [level - ground for level in levels]
    for door in ins:
        shifts[door] = 0
    for door in outs:
        shifts[door] = told
    return tuple(shifts)
