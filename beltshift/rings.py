"""Rings: places from which steps lead back to where they began."""


def first_on_ring(places, steps):
    """The first of the places that lies on a ring, or None; steps is a dict from each place to a list of places."""
    for place in places:
        if comes_back(place, steps):
            return place
    return None


def comes_back(place, steps):
    """Whether one step or more lead from a place to itself."""
    seen = set()
    left = list(steps[place])
    while left:
        here = left.pop()
        if here == place:
            return True
        if here not in seen:
            seen.add(here)
            left.extend(steps[here])
    return False
