"""Ways: along belts, from hand to hand."""

from beltshift.order import work_order
from beltshift.rooms import comings


def trays_on(room, way):
    """How many trays the belts of a way have."""
    return sum([len(room[1][number][2]) for number in way[1]])


def moments_on(room, way):
    """The moments of the hands on a way, a hand's as often as the way comes to it."""
    hands, belts = room
    first, numbers = way
    return hands[first][1] + sum([hands[belts[number][1]][1] for number in numbers])


def way_end(room, pair):
    """The hand at which a way ends; None of a pair that is no way."""
    hands, belts = room
    end, numbers = pair
    if not 0 <= end < len(hands):
        return None
    for number in numbers:
        if not 0 <= number < len(belts) or belts[number][0] != end:
            return None
        end = belts[number][1]
    return end


def time_of(room):
    """The greatest moments of ways without trays; 0 of a room without hands."""
    way = long_way(room)
    return 0 if way is None else moments_on(room, way)


def long_way(room):
    """A way without trays that has the greatest moments; None of a room without hands."""
    if not room[0]:
        return None
    sums, last = long_sums(room)
    end = max(list(sums), key=lambda hand: sums[hand])
    return way_back(room, end, last)


def long_sums(room):
    """Two dicts by hands: the greatest moments of ways without trays that end there, and their last belts, if any."""
    hands, belts = room
    sums = {}
    last = {}
    for hand in work_order(room):
        sums[hand] = hands[hand][1]
        for number in comings(room, hand):
            giver, taker, things = belts[number]
            if not things and sums[giver] + hands[hand][1] > sums[hand]:
                sums[hand] = sums[giver] + hands[hand][1]
                last[hand] = number
    return sums, last


def way_back(room, end, last):
    """The way that ends at a hand and comes there by the belts of last, a dict of each hand's, if any."""
    numbers = []
    hand = end
    while hand in last:
        numbers.append(last[hand])
        hand = room[1][last[hand]][0]
    return (hand, tuple(numbers[::-1]))


def least_between(room, one, other):
    """(trays, moments), the fewest of ways from one hand to another and the greatest of those with so few; or None."""
    costs, last = least_costs(room, one)
    if other not in costs:
        return None
    trays, less = costs[other]
    return (trays, -less)


def way_between(room, one, other):
    """A way of which least_between tells; or None."""
    costs, last = least_costs(room, one)
    return way_back(room, other, last) if other in costs else None


def least_costs(room, one):
    """Two dicts by hands to which ways lead from one: (fewest trays, less greatest moments), and their last belts."""
    hands, belts = room
    costs = {one: (0, -hands[one][1])}
    last = {}
    changed = True
    # This ends: each ring has a tray, so no way costs less by going round.
    while changed:
        changed = False
        for number, (giver, taker, things) in enumerate(belts):
            if giver in costs:
                trays, less = costs[giver]
                cost = (trays + len(things), less - hands[taker][1])
                if taker not in costs or cost < costs[taker]:
                    costs[taker] = cost
                    last[taker] = number
                    changed = True
    return costs, last
