"""Rooms, formulas and shifts for the tests, written out and drawn with a fixed seed, and what several tests ask."""

import random

from beltshift.errors import NoFormula, NoRoom
from beltshift.formulas import look_formulas
from beltshift.rooms import look_room
from beltshift.rules import needs

IN = (("in",), 0)
OUT = (("out",), 0)
EMPTY = ((), ())

# Hand 1 adds what comes in to what it made a bell ago.
COUNTER = (
    (IN, (("sum",), 2), OUT),
    ((0, 1, ()), (1, 1, (10,)), (1, 2, ())),
)

# What comes in, less what came in three bells ago, twice over two belts between the same two hands.
ECHO = (
    (IN, (("gap",), 1), (("sum",), 3), OUT),
    ((0, 1, ()), (0, 1, (7, 8, 9)), (1, 2, ()), (1, 2, (-1, -2)), (2, 3, (5,))),
)

# No door at all: hands 0 and 1 hand their things to and fro, hand 2 makes its own.
CLOSED = (
    ((("same",), 1), (("times", -2), 4), (("always", 6), 0)),
    ((1, 0, (3,)), (0, 1, ())),
)


def hand(word, *number, moments=1):
    """A hand whose rule has this word."""
    return ((word, *number), moments)


def raised(refusal, ask, *given):
    """The refusal of this class that asking raises; any other outcome is an error."""
    try:
        told = ask(*given)
    except refusal as error:
        return error
    raise AssertionError(f"told {told!r} where {refusal.__name__} is due")


def drawn_rooms(many, seed):
    """So many rooms that are let by."""
    draw = random.Random(seed)
    rooms = []
    while len(rooms) < many:
        room = drawn_room(draw)
        try:
            look_room(room)
        except NoRoom:
            continue
        rooms.append(room)
    return rooms


def drawn_room(draw):
    """Hands and belts by chance, as many to each hand as it takes; perhaps with a ring that is refused."""
    hands = [drawn_hand(draw) for number in range(draw.randrange(0, 9))]
    givers = [number for number, (rule, moments) in enumerate(hands) if rule != ("out",)]
    belts = []
    for taker, (rule, moments) in enumerate(hands):
        for number in range(needs(rule) if givers else 0):
            things = [draw.randrange(-9, 10) for tray in range(draw.choice([0, 0, 0, 1, 1, 2, 3, 6]))]
            belts.append((draw.choice(givers), taker, tuple(things)))
    draw.shuffle(belts)
    return (tuple(hands), tuple(belts))


def drawn_hand(draw):
    """A hand by chance."""
    words = ["same", "sum", "gap", "below", "most", "least", "pick", "times", "always", "in", "in", "out", "out"]
    word = draw.choice(words)
    if word in ("in", "out"):
        return ((word,), 0)
    if word in ("times", "always"):
        return ((word, draw.randrange(-3, 4)), draw.randrange(0, 5))
    return ((word,), draw.randrange(0, 5))


def drawn_rows(room, many, seed):
    """So many rows of things for the in doors of a room."""
    draw = random.Random(seed)
    doors = [number for number, (rule, moments) in enumerate(room[0]) if rule == ("in",)]
    return [tuple(draw.randrange(-99, 100) for door in doors) for bell in range(many)]


def drawn_formulas(many, seed):
    """So many formulas that are let by."""
    draw = random.Random(seed)
    told = []
    while len(told) < many:
        formulas = formulas_by_chance(draw)
        try:
            look_formulas(formulas)
        except NoFormula:
            continue
        told.append(formulas)
    return told


def formulas_by_chance(draw):
    """Formulas; perhaps with a ring that is refused."""
    names = draw.sample(["a", "b", "c", "d", "e", "f", "g", "sum", "name"], 9)
    ins = tuple(names[: draw.randrange(0, 5)])
    rules = names[len(ins):][: draw.randrange(0, 6)]
    known = list(ins) + rules
    draw.shuffle(known)
    was = [(name, tuple(drawn_things(draw, draw.randrange(0, 8)))) for name in known if draw.randrange(2)]
    trees = [(name, tree_by_chance(draw, known, draw.randrange(1, 11))) for name in rules]
    outs = [draw.choice(known) for out in range(draw.randrange(0, 5) if known else 0)]
    return (ins, tuple(was), tuple(trees), tuple(outs))


def drawn_things(draw, many):
    return [draw.randrange(-9, 10) for thing in range(many)]


def tree_by_chance(draw, names, parts):
    """A tree of at most so many parts."""
    words = ["name", "name", "name", "number"]
    for word, least in [("times", 2), ("sum", 3), ("gap", 3), ("below", 3), ("most", 3), ("least", 3), ("pick", 4)]:
        words += [word] * (3 if parts >= least else 0)
    word = draw.choice(words)
    if word == "name":
        return ("name", draw.choice(names), draw.choice([0, 0, 0, 1, 1, 2, 3, 6]))
    if word == "number":
        return ("number", draw.randrange(-20, 21))
    if word == "times":
        return ("times", draw.randrange(-9, 10), tree_by_chance(draw, names, parts - 1))
    branches = 3 if word == "pick" else 2
    return (word, *[tree_by_chance(draw, names, (parts - 1) // branches) for branch in range(branches)])


def drawn_shifts(room, late, seed):
    """Shifts that are let by, from none on by one hand after the other."""
    draw = random.Random(seed)
    shifts = [late if rule == ("out",) else 0 for rule, moments in room[0]]
    free = [number for number, (rule, moments) in enumerate(room[0]) if rule not in (("in",), ("out",))]
    for turn in range(40 if free else 0):
        number = draw.choice(free)
        changed = list(shifts)
        changed[number] += draw.choice([-3, -2, -1, -1, 1, 1, 2])
        if all(len(things) + changed[taker] - changed[giver] >= 0 for giver, taker, things in room[1]):
            shifts = changed
    return tuple(shifts)


def knit_rooms(many, seed, most=12):
    """So many rooms of at most so many hands and twenty belts: few trays forth, some back, and many moments."""
    draw = random.Random(seed)
    rooms = []
    while len(rooms) < many:
        room = knit_room(draw, draw.randrange(2, most + 1))
        try:
            look_room(room)
        except NoRoom:
            continue
        if len(room[1]) <= 20:
            rooms.append(room)
    return rooms


def knit_room(draw, many):
    hands = []
    for number in range(many):
        word = draw.choice(["same", "same", "sum", "gap", "most", "pick", "in", "out"] if number else ["in", "in", "same"])
        hands.append(((word,), 0 if word in ("in", "out") else draw.randrange(0, 31)))
    givers = [number for number, (rule, moments) in enumerate(hands) if rule != ("out",)]
    belts = []
    for taker, (rule, moments) in enumerate(hands):
        for number in range(needs(rule) if givers else 0):
            near = [giver for giver in givers if taker - 3 <= giver < taker]
            giver = draw.choice(near if near and draw.randrange(4) else givers)
            trays = draw.choice([0, 0, 0, 0, 0, 1, 2] if giver < taker else [1, 1, 2, 3, 6])
            belts.append((giver, taker, tuple(drawn_things(draw, trays))))
    draw.shuffle(belts)
    return (tuple(hands), tuple(belts))


def are_plain_ways(told):
    """Whether a tuple is one of pairs of an int and a tuple of ints, with no truths among them."""
    if type(told) is not tuple:
        return False
    for pair in told:
        if type(pair) is not tuple or len(pair) != 2 or type(pair[0]) is not int or type(pair[1]) is not tuple:
            return False
        if any(type(number) is not int for number in pair[1]):
            return False
    return True
