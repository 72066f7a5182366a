"""Prices: ways with numbers, which hold down how many trays shifts leave that reach a time."""

from beltshift.rooms import IN_RULE, OUT_RULE, comings, goings
from beltshift.ways import moments_on, trays_on, way_end


def prices_hold(room, late, time, count, prices):
    """Whether a tuple of (pair, number) is one of prices that bind and hold down just this count."""
    if not all(is_price(room, way, many) for way, many in prices):
        return False
    return they_bind(room, prices) and held_count(room, late, time, prices) == count


def is_price(room, pair, many):
    """Whether a pair is a way of one belt or more, and its number one from 1 on."""
    return many >= 1 and len(pair[1]) > 0 and way_end(room, pair) is not None


def they_bind(room, prices):
    """Whether prices leave each hand that is no door just as its belts do."""
    leaving = [0] * len(room[0])
    for way, many in prices:
        leaving[way[0]] += many
        leaving[way_end(room, way)] -= many
    for hand, (rule, moments) in enumerate(room[0]):
        owed = len(goings(room, hand)) - len(comings(room, hand))
        if rule not in (IN_RULE, OUT_RULE) and leaving[hand] != owed:
            return False
    return True


def held_count(room, late, time, prices):
    """The count that prices which bind hold down."""
    hands, belts = room
    count = sum([len(things) for giver, taker, things in belts])
    count += late * len([1 for rule, moments in hands if rule == OUT_RULE])
    for way, many in prices:
        trays = trays_on(room, way)
        if moments_on(room, way) > time:
            trays -= 1
        if hands[way_end(room, way)][0] == OUT_RULE:
            trays += late
        count -= many * trays
    return count
