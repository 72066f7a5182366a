"""Places for hands, all doors being one place, the ground: by a lateness they lie fast beside each other.

The ground's number is how many hands there are; a door's own number is a place to which no step comes.
"""

from beltshift.least import least_ways, needed
from beltshift.rooms import IN_RULE, OUT_RULE


def hand_places(room, late):
    """A list of (place, above) for each hand: where it lies, and how far above its place."""
    ground = len(room[0])
    places = []
    for hand, (rule, moments) in enumerate(room[0]):
        if rule == IN_RULE:
            places.append((ground, 0))
        elif rule == OUT_RULE:
            places.append((ground, late))
        else:
            places.append((hand, 0))
    return places


def ground_steps(room, late, time):
    """Two lists: ways between hands at unlike places, and the step from place to place that each asks for.

    Where some shifts reach the time, ways between hands at one place ask for nothing. No way begins above its place,
    since no belt leaves an out door.
    """
    places = hand_places(room, late)
    ways = []
    steps = []
    for trays, moments, way, end in least_ways(room):
        begins = places[way[0]][0]
        ends, above = places[end]
        if begins != ends:
            ways.append(way)
            steps.append((begins, ends, needed(moments, time) - trays - above))
    return ways, steps


def ground_shifts(room, late, levels):
    """The shifts by which hands lie as levels of places have it, in doors at 0."""
    ground = levels[len(room[0])]
    return tuple([levels[place] + above - ground for place, above in hand_places(room, late)])
