"""The fewest trays that shifts leave which reach a time."""

from beltshift.grounds import ground_shifts, ground_steps
from beltshift.least import shifts_or_bar
from beltshift.levels import levels_or_ring
from beltshift.shifts import trays_moved


def fewest_trays(room, late, time):
    """(count, shifts, prices): the fewest trays, shifts that leave so many, prices that bar fewer; or None."""
    if shifts_or_bar(room, late, time)[0] == "bar":
        return None
    ways, steps = ground_steps(room, late, time)
    prices = belt_prices(room, ways)
    levels, turn = levels_or_turn(room, steps, prices)
    while turn is not None:
        turn_prices(prices, turn)
        levels, turn = levels_or_turn(room, steps, prices)
    shifts = ground_shifts(room, late, levels)
    told = [(way, many) for way, many in zip(ways, prices) if many > 0]
    return (sum(trays_moved(room, shifts)), shifts, tuple(told))


def belt_prices(room, ways):
    """A list of a price for each way: how many belts lead from its first hand right to its last.

    So they bind, as the belts by themselves would. Belts that lead back to the same place ask for no price.
    """
    hands, belts = room
    ends = [(way[0], belts[way[1][-1]][1]) for way in ways]
    leads = [(giver, taker) for giver, taker, things in belts]
    return [leads.count(pair) for pair in ends]


def levels_or_turn(room, steps, prices):
    """(levels, None), levels that meet each step, and each that has a price with nothing over; or (None, turn).

    With such levels no prices hold down more. A turn is a list of (number of a way, 1 or -1), by which prices may rise
    or fall so that they still bind and hold down more.
    """
    priced = [number for number, many in enumerate(prices) if many > 0]
    backs = [(steps[number][1], steps[number][0], -steps[number][2]) for number in priced]
    levels, ring = levels_or_ring(len(room[0]) + 1, steps + backs)
    if ring is None:
        return (levels, None)
    first = len(steps)
    turn = [(number, 1) if number < first else (priced[number - first], -1) for number in ring]
    return (None, turn)


def turn_prices(prices, turn):
    """Changes prices along a turn as far as none falls below 0."""
    # Some price falls: where shifts reach the time, steps by themselves need nothing that they cannot have.
    far = min([prices[number] for number, change in turn if change < 0])
    for number, change in turn:
        prices[number] += change * far
