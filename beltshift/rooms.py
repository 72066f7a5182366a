"""Rooms: hands, and belts between them."""

from beltshift.errors import NoRoom
from beltshift.rings import first_on_ring
from beltshift.rules import is_rule, needs
from beltshift.words import is_whole

IN_RULE = ("in",)
OUT_RULE = ("out",)


def look_room(room):
    """True of a room; else NoRoom."""
    if not has_form(room):
        raise NoRoom("form", ())
    refuse_room("hand", wrong_hand(room))
    refuse_room("belt", wrong_belt(room))
    refuse_room("count", wrong_count(room))
    refuse_room("ring", hand_on_ring(room))
    return True


def refuse_room(word, at):
    """Raises NoRoom, unless at is None."""
    if at is not None:
        raise NoRoom(word, (at,))


def is_tuple_of(thing, many):
    """Whether a thing is a tuple of so many things."""
    return isinstance(thing, tuple) and len(thing) == many


def has_form(room):
    """Whether a thing is made of tuples and whole numbers as a room is; rules may be anything."""
    if not is_tuple_of(room, 2):
        return False
    hands, belts = room
    if not isinstance(hands, tuple) or not isinstance(belts, tuple):
        return False
    return all(is_hand_pair(hand) for hand in hands) and all(is_belt_triple(belt) for belt in belts)


def is_hand_pair(hand):
    """Whether a thing is a pair of anything and a whole number."""
    return is_tuple_of(hand, 2) and is_whole(hand[1])


def is_belt_triple(belt):
    """Whether a thing is a triple of two whole numbers and a tuple of whole numbers."""
    if not is_tuple_of(belt, 3) or not isinstance(belt[2], tuple):
        return False
    return is_whole(belt[0]) and is_whole(belt[1]) and all(is_whole(thing) for thing in belt[2])


def wrong_hand(room):
    """The first hand without a rule, with moments below 0, or that is a door with moments; or None."""
    for number, (rule, moments) in enumerate(room[0]):
        if not is_rule(rule) or moments < 0:
            return number
        if moments != 0 and rule in (IN_RULE, OUT_RULE):
            return number
    return None


def wrong_belt(room):
    """The first belt from or to no hand, or from an out door; or None."""
    hands, belts = room
    for number, (giver, taker, things) in enumerate(belts):
        if not 0 <= giver < len(hands) or not 0 <= taker < len(hands):
            return number
        if hands[giver][0] == OUT_RULE:
            return number
    return None


def wrong_count(room):
    """The first hand to which not as many belts come as its rule takes; or None."""
    for number, (rule, moments) in enumerate(room[0]):
        if len(comings(room, number)) != needs(rule):
            return number
    return None


def hand_on_ring(room):
    """The least hand on a ring of belts without trays; or None."""
    hands, belts = room
    steps = {number: [] for number in range(len(hands))}
    for giver, taker, things in belts:
        if not things:
            steps[giver].append(taker)
    return first_on_ring(list(steps), steps)


def comings(room, hand):
    """The belts that come to a hand, rising."""
    return [number for number, belt in enumerate(room[1]) if belt[1] == hand]


def goings(room, hand):
    """The belts that leave a hand, rising."""
    return [number for number, belt in enumerate(room[1]) if belt[0] == hand]


def doors_in(room):
    """The in doors, rising."""
    return [number for number, hand in enumerate(room[0]) if hand[0] == IN_RULE]


def doors_out(room):
    """The out doors, rising."""
    return [number for number, hand in enumerate(room[0]) if hand[0] == OUT_RULE]
