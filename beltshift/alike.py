"""Hands alike: those that make the same at every bell, and the room in which they are one."""

from beltshift.rooms import IN_RULE, OUT_RULE, comings


def kinds(room):
    """A tuple of the number of each hand's kind; kinds are numbered from 0 as they come up."""
    told = numbered([first_mark(rule, hand) for hand, (rule, moments) in enumerate(room[0])])
    before = None
    # Parted only where hands must be unlike, so that there are no more kinds than need be.
    while told != before:
        before = told
        told = numbered([mark_by(room, before, hand) for hand in range(len(before))])
    return told


def numbered(marks):
    """A tuple of a number for each mark, the same for the same ones, from 0 as they come up."""
    numbers = {}
    for mark in marks:
        if mark not in numbers:
            numbers[mark] = len(numbers)
    return tuple([numbers[mark] for mark in marks])


def first_mark(rule, hand):
    """What parts a hand from others at first: its rule; of a door its own number, too."""
    return (rule, hand) if rule in (IN_RULE, OUT_RULE) else (rule,)


def mark_by(room, told, hand):
    """What parts a hand from others by the kinds told till now: its own, and what comes to it from which."""
    belts = [room[1][number] for number in comings(room, hand)]
    return (told[hand], tuple([(told[giver], things) for giver, taker, things in belts]))


def joined_alike(room):
    """The room that has one hand for each kind."""
    told = kinds(room)
    hands = []
    belts = []
    for kind in range(max(told, default=-1) + 1):
        alike = [hand for hand, own in enumerate(told) if own == kind]
        hands.append((room[0][alike[0]][0], min([room[0][hand][1] for hand in alike])))
        for number in comings(room, alike[0]):
            giver, taker, things = room[1][number]
            belts.append((told[giver], kind, things))
    return (tuple(hands), tuple(belts))
