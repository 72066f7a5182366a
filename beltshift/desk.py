"""The desk: rooms kept by names, told and asked by rows."""

from beltshift.alike import joined_alike, kinds
from beltshift.beats import beat
from beltshift.deskrows import read_row
from beltshift.errors import NoName, NoRow
from beltshift.fewest import fewest_trays
from beltshift.formulas import look_formulas
from beltshift.formulatexts import read_formulas
from beltshift.full import least_slowing
from beltshift.least import least_time
from beltshift.maker import made_room
from beltshift.moving import moved
from beltshift.rooms import doors_in
from beltshift.roomtexts import read_room, show_room
from beltshift.runs import Run, standing
from beltshift.shifts import look_shifts, waits
from beltshift.slowed import slowed
from beltshift.soonest import soonest
from beltshift.ways import time_of
from beltshift.words import text_of

ROW_END = " ; "


class Kept:
    """A room that is kept, its Run, and the rows of things that came since."""

    def __init__(self, room):
        self.first = room
        self.begun = Run(room)
        self.rows = []


def room_of_text(numbers, text):
    """The room that a text writes."""
    return read_room(text.replace(ROW_END, "\n"))


def room_of_formulas(numbers, text):
    """The room of these moments, made of the formulas that a text writes."""
    formulas = read_formulas(text.replace(ROW_END, "\n"))
    look_formulas(formulas)
    return made_room(formulas, numbers)


def room_moved(kept, numbers, shifts):
    """The room as it stood as many bells ago as shifts wait, moved."""
    look_shifts(kept.first, numbers[0], shifts)
    ago = len(kept.rows) - waits(shifts)
    if ago < 0:
        raise NoRow()
    return moved(standing(kept.first, kept.rows[:ago]), numbers[0], shifts, kept.rows[ago:])


def room_slowed(kept, numbers, rest):
    """The room as it stands, slowed."""
    return slowed(kept.begun.room(), numbers[0])


def room_joined(kept, numbers, rest):
    """The room as it stands, hands alike made one."""
    return joined_alike(kept.begun.room())


def say_room(kept, numbers, rest):
    """The text of the room as it stands."""
    return show_room(kept.begun.room()).replace("\n", ROW_END)


def say_bell(kept, numbers, things):
    """What goes out at a bell at which these things come."""
    if len(things) != len(doors_in(kept.first)):
        raise NoRow()
    told = kept.begun.bell(things)
    kept.rows.append(things)
    return " ".join([text_of(thing) for thing in told]) if told else "-"


def say_bells(kept, numbers, rest):
    """How many bells there were."""
    return text_of(kept.begun.bells())


def say_time(kept, numbers, rest):
    """The time of the room."""
    return text_of(time_of(kept.begun.room()))


def say_least(kept, numbers, rest):
    """The least time by a lateness."""
    return text_of(least_time(kept.begun.room(), numbers[0])[0])


def say_fewest(kept, numbers, rest):
    """The fewest trays for a time and a lateness."""
    return first_or_none(fewest_trays(kept.begun.room(), numbers[1], numbers[0]))


def say_soonest(kept, numbers, rest):
    """The fewest bells to wait for a time and a lateness."""
    return first_or_none(soonest(kept.begun.room(), numbers[1], numbers[0]))


def first_or_none(told):
    """The number that stands first in what is told, as text; none where nothing is."""
    return "none" if told is None else text_of(told[0])


def say_slowing(kept, numbers, rest):
    """The least slowing."""
    return text_of(least_slowing(kept.begun.room())[0])


def say_beat(kept, numbers, rest):
    """The beat."""
    a, b = beat(kept.begun.room())
    return text_of(a) if b == 1 else f"{text_of(a)}/{text_of(b)}"


def say_kinds(kept, numbers, rest):
    """How many kinds of hands there are."""
    return text_of(len(set(kinds(kept.begun.room()))))


COMES = {"room": room_of_text, "made": room_of_formulas}
CHANGES = {"move": room_moved, "slow": room_slowed, "join": room_joined}
ANSWERS = {
    "show": say_room,
    "bell": say_bell,
    "bells": say_bells,
    "time": say_time,
    "least": say_least,
    "fewest": say_fewest,
    "soonest": say_soonest,
    "slowing": say_slowing,
    "beat": say_beat,
    "kinds": say_kinds,
}


class Desk:
    """Rooms by names."""

    def __init__(self):
        self.kept = {}

    def say(self, row):
        """What is told on a row, a text; else NoRow, NoName, or what refuses a text, a room, formulas, shifts."""
        word, name, numbers, rest = read_row(row)
        if word in COMES:
            come = COMES[word]
            return self.keep(name, come(numbers, rest))
        if name not in self.kept:
            raise NoName(name)
        kept = self.kept[name]
        if word in CHANGES:
            change = CHANGES[word]
            return self.keep(name, change(kept, numbers, rest))
        answer = ANSWERS[word]
        return answer(kept, numbers, rest)

    def keep(self, name, room):
        """Keeps a room by a name, in the place of what was."""
        self.kept[name] = Kept(room)
        return "kept"
