"""The beat: how far apart the works of the slowest hands come in the long run, without a bell."""

from beltshift.levels import levels_or_ring
from beltshift.ways import moments_on, trays_on, way_end


def beat(room):
    """The beat, a fraction (a, b) without a common divisor."""
    fraction, way, numbers = beat_papers(room)
    return fraction


def holder(room):
    """A way that holds the beat up; None of a room without hands."""
    fraction, way, numbers = beat_papers(room)
    return way


def holding(room):
    """A tuple of numbers that hold the beat down."""
    fraction, way, numbers = beat_papers(room)
    return numbers


def beat_papers(room):
    """(beat, a way that holds it up, a tuple of numbers that hold it down)."""
    hands, belts = room
    if not hands:
        return ((0, 1), None, ())
    slowest = max(list(range(len(hands))), key=lambda hand: hands[hand][1])
    way = (slowest, ())
    fraction = (hands[slowest][1], 1)
    levels, ring = levels_or_ring(len(hands), beat_steps(room, fraction))
    # This ends: each ring that is found has more moments by trays than the one ahead.
    while ring is not None:
        way = (belts[ring[0]][0], tuple(ring))
        fraction = in_least_terms(ring_moments(room, way), trays_on(room, way))
        levels, ring = levels_or_ring(len(hands), beat_steps(room, fraction))
    return (fraction, way, tuple(levels))


def beat_steps(room, fraction):
    """A list of the steps that belts ask for, by their numbers, where a fraction is to be held down."""
    a, b = fraction
    hands, belts = room
    return [(giver, taker, b * hands[giver][1] - a * len(things)) for giver, taker, things in belts]


def ring_moments(room, way):
    """The moments of a closed way, without those of the first hand, which is the last one, too."""
    return moments_on(room, way) - room[0][way[0]][1]


def in_least_terms(a, b):
    """The fraction a by b, without a common divisor."""
    divisor, left = a, b
    while left != 0:
        divisor, left = left, divisor % left
    return (a // divisor, b // divisor)


def holder_holds(room, fraction, way):
    """Whether a pair is a way that holds a fraction up."""
    a, b = fraction
    end = way_end(room, way)
    if end is None:
        return False
    if not way[1]:
        return b * room[0][end][1] == a
    return end == way[0] and b * ring_moments(room, way) == a * trays_on(room, way)


def holding_holds(room, fraction, numbers):
    """Whether a tuple of a number for each hand holds a fraction down."""
    a, b = fraction
    if any([number < 0 for number in numbers]) or any([b * moments > a for rule, moments in room[0]]):
        return False
    steps = beat_steps(room, fraction)
    return all([numbers[taker] >= numbers[giver] + need for giver, taker, need in steps])
