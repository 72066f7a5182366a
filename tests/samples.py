"""Rooms for the tests, written out and drawn with a fixed seed, and questions that several tests ask."""

import random

from beltshift.errors import NoRoom
from beltshift.rooms import look_room
from beltshift.rules import needs

IN = (("in",), 0)
OUT = (("out",), 0)
EMPTY = ((), ())

# Hand 1 adds what comes in to what it made a bell ago.
COUNTER = (
    (IN, (("sum",), 2), OUT),
    ((0, 1, ()), (1, 1, (10,)), (1, 2, ())),
)

# What comes in, less what came in three bells ago, twice over two belts between the same two hands.
ECHO = (
    (IN, (("gap",), 1), (("sum",), 3), OUT),
    ((0, 1, ()), (0, 1, (7, 8, 9)), (1, 2, ()), (1, 2, (-1, -2)), (2, 3, (5,))),
)

# No door at all: hands 0 and 1 hand their things to and fro, hand 2 makes its own.
CLOSED = (
    ((("same",), 1), (("times", -2), 4), (("always", 6), 0)),
    ((1, 0, (3,)), (0, 1, ())),
)


def hand(word, *number, moments=1):
    """A hand whose rule has this word."""
    return ((word, *number), moments)


def raised(refusal, ask, *given):
    """The refusal of this class that asking raises; any other outcome is an error."""
    try:
        told = ask(*given)
    except refusal as error:
        return error
    raise AssertionError(f"told {told!r} where {refusal.__name__} is due")


def drawn_rooms(many, seed):
    """So many rooms that are let by."""
    draw = random.Random(seed)
    rooms = []
    while len(rooms) < many:
        room = drawn_room(draw)
        try:
            look_room(room)
        except NoRoom:
            continue
        rooms.append(room)
    return rooms


def drawn_room(draw):
    """Hands and belts by chance, as many to each hand as it takes; perhaps with a ring that is refused."""
    hands = [drawn_hand(draw) for number in range(draw.randrange(0, 9))]
    givers = [number for number, (rule, moments) in enumerate(hands) if rule != ("out",)]
    belts = []
    for taker, (rule, moments) in enumerate(hands):
        for number in range(needs(rule) if givers else 0):
            things = [draw.randrange(-9, 10) for tray in range(draw.choice([0, 0, 0, 1, 1, 2, 3, 6]))]
            belts.append((draw.choice(givers), taker, tuple(things)))
    draw.shuffle(belts)
    return (tuple(hands), tuple(belts))


def drawn_hand(draw):
    """A hand by chance."""
    words = ["same", "sum", "gap", "below", "most", "least", "pick", "times", "always", "in", "in", "out", "out"]
    word = draw.choice(words)
    if word in ("in", "out"):
        return ((word,), 0)
    if word in ("times", "always"):
        return ((word, draw.randrange(-3, 4)), draw.randrange(0, 5))
    return ((word,), draw.randrange(0, 5))


def drawn_rows(room, many, seed):
    """So many rows of things for the in doors of a room."""
    draw = random.Random(seed)
    doors = [number for number, (rule, moments) in enumerate(room[0]) if rule == ("in",)]
    return [tuple(draw.randrange(-99, 100) for door in doors) for bell in range(many)]
