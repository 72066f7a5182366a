"""Rooms slowed: some rooms in one, their bells in turn."""


def slowed(room, k):
    """The room with k trays for each tray, the tray's thing on each."""
    hands, belts = room
    changed = [(giver, taker, repeated(things, k)) for giver, taker, things in belts]
    return (hands, tuple(changed))


def repeated(things, k):
    """A tuple of the things, each k times."""
    return tuple([thing for thing in things for turn in range(k)])


def woven(some):
    """A list of what several rows, each as long as the others, have at each bell, in turn."""
    return [rows[bell] for bell in range(len(some[0])) for rows in some]
