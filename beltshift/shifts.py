"""Shifts: by how many bells each hand is to work later, and what that does to the belts' trays."""

from beltshift.errors import NoShift
from beltshift.rooms import doors_in, doors_out
from beltshift.words import is_whole


def look_shifts(room, late, shifts):
    """True of shifts that a room can be moved by; else NoShift."""
    if not is_shifts(room, shifts):
        raise NoShift("form", ())
    refuse_shifts("door", wrong_door(room, late, shifts))
    refuse_shifts("belt", short_belt(room, shifts))
    return True


def refuse_shifts(word, at):
    """Raises NoShift, unless at is None."""
    if at is not None:
        raise NoShift(word, (at,))


def is_shifts(room, thing):
    """Whether a thing is a tuple of a whole number for each hand."""
    if not isinstance(thing, tuple) or len(thing) != len(room[0]):
        return False
    return all(is_whole(shift) for shift in thing)


def wrong_door(room, late, shifts):
    """The first door whose shift is not 0, of in doors, or late, of out doors; or None."""
    wrong = [door for door in doors_in(room) if shifts[door] != 0]
    wrong.extend([door for door in doors_out(room) if shifts[door] != late])
    return min(wrong, default=None)


def short_belt(room, shifts):
    """The first belt that would have fewer than no trays; or None."""
    for number, trays in enumerate(trays_moved(room, shifts)):
        if trays < 0:
            return number
    return None


def waits(shifts):
    """How many bells shifts wait."""
    return max((0,) + shifts)


def trays_moved(room, shifts):
    """A list of how many trays each belt has, moved so."""
    return [len(things) + shifts[taker] - shifts[giver] for giver, taker, things in room[1]]
