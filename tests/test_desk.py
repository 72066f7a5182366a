import random
import unittest

from beltshift.alike import joined_alike, kinds
from beltshift.beats import beat
from beltshift.desk import Desk
from beltshift.errors import BeltError, NoFormula, NoName, NoRoom, NoRow, NoShift, NoText
from beltshift.fewest import fewest_trays
from beltshift.formulatexts import read_formulas
from beltshift.full import least_slowing
from beltshift.least import least_time
from beltshift.maker import made_room
from beltshift.moving import moved
from beltshift.rooms import doors_in, doors_out
from beltshift.roomtexts import read_room, show_room
from beltshift.runs import run, standing
from beltshift.saying import said
from beltshift.shifts import waits
from beltshift.slowed import slowed
from beltshift.soonest import soonest
from beltshift.ways import time_of
from tests.samples import CLOSED, COUNTER, ECHO, EMPTY, IN, OUT, drawn_rooms, drawn_rows, drawn_shifts, hand, knit_rooms, raised

COUNTER_TEXT = "hand in 0 ; hand sum 2 ; hand out 0 ; belt 0 1 : ; belt 1 1 : 10 ; belt 1 2 :"
CLOSED_TEXT = "hand same 1 ; hand times -2 4 ; hand always 6 0 ; belt 1 0 : 3 ; belt 0 1 :"
FORMULAS_TEXT = "in a ; was s : 10 ; s = s @ 1 + a ; out s s"
NINE = "1 2 3 4 5 6 7 8 9"
# Every word of a row by itself, as good rows that name a room a of three hands and one in door.
ASKING = [
    "show a", "bells a", "time a", "least a 0", "least a any", "fewest a 2 0", "soonest a 2 0", "slowing a", "beat a", "kinds a",
]
CHANGING = ["bell a 3", "move a 0 0 0 0", "slow a 2", "join a"]


def in_a_row(room):
    return show_room(room).replace("\n", " ; ")


def desk_with(*rooms):
    """A desk that keeps these rooms as a, b, c and so on."""
    desk = Desk()
    for name, room in zip("abcdefgh", rooms):
        if desk.say(f"room {name} {in_a_row(room)}") != "kept":
            raise AssertionError(name)
    return desk


class Telling(unittest.TestCase):
    def says(self, desk, *rows):
        """That a desk tells just these texts, one behind the other."""
        for row, due in rows:
            told = desk.say(row)
            self.assertIs(type(told), str, row)
            self.assertEqual(told, due, row)


class Rows(Telling):
    def test_room(self):
        desk = Desk()
        self.says(
            desk, (f"room a {COUNTER_TEXT}", "kept"), ("show a", COUNTER_TEXT), (f"room abcxyz {CLOSED_TEXT}", "kept"),
            ("show abcxyz", CLOSED_TEXT), ("show a", COUNTER_TEXT), (f"room a {CLOSED_TEXT}", "kept"), ("show a", CLOSED_TEXT),
        )

    def test_the_room_without_hands(self):
        self.says(
            Desk(), ("room a ", "kept"), ("show a", ""), ("bell a", "-"), ("bell a", "-"), ("bells a", "2"), ("time a", "0"),
            ("least a 0", "0"), ("least a any", "0"), ("fewest a 0 0", "0"), ("soonest a 0 3", "0"), ("slowing a", "1"),
            ("beat a", "0"), ("kinds a", "0"), ("move a 4", "kept"), ("bells a", "0"), ("slow a 3", "kept"), ("join a", "kept"),
            ("show a", ""),
        )

    def test_made(self):
        desk = Desk()
        formulas = read_formulas(FORMULAS_TEXT.replace(" ; ", "\n"))
        room = made_room(formulas, tuple(range(1, 10)))
        self.says(desk, (f"made a {NINE} {FORMULAS_TEXT}", "kept"), ("show a", in_a_row(room)), ("time a", str(time_of(room))))
        told = [" ".join(str(thing) for thing in row) for row in said(formulas, [(1,), (-4,), (7,)])]
        self.says(desk, ("bell a 1", told[0]), ("bell a -4", told[1]), ("bell a 7", told[2]), ("bells a", "3"))
        self.says(desk, ("made b 0 0 0 0 0 0 0 0 0 in ; out", "kept"), ("show b", ""), ("bell b", "-"))
        self.says(desk, ("made a 0 0 0 0 0 0 0 0 5 in ; x = 3 ; out x", "kept"), ("bells a", "0"), ("time a", "5"), ("bell a", "3"))

    def test_bell(self):
        desk = desk_with(COUNTER, CLOSED, ((IN, IN, hand("gap"), OUT, OUT), ((0, 2, ()), (1, 2, ()), (2, 3, ()), (0, 4, (9,)))))
        self.says(desk, ("bell a 1", "11"), ("bell a 2", "13"), ("bell a -100", "-87"), ("bells a", "3"))
        self.says(desk, ("bell b", "-"), ("bell b", "-"), ("bells b", "2"))
        self.says(desk, ("bell c 5 7", "-2 9"), ("bell c 0 -1", "1 5"), ("bells c", "2"))
        only = desk_with(((IN, hand("same")), ((0, 1, ()),)))
        self.says(only, ("bell a 4", "-"), ("bell a -4", "-"), ("bells a", "2"))
        self.says(desk_with(((hand("always", -5), OUT), ((0, 1, ()),))), ("bell a", "-5"))

    def test_show_as_it_stands(self):
        desk = desk_with(COUNTER, CLOSED)
        self.says(desk, ("bell a 1", "11"), ("show a", COUNTER_TEXT.replace(": 10", ": 11")))
        self.says(desk, ("bell a 2", "13"), ("show a", COUNTER_TEXT.replace(": 10", ": 13")), ("show b", CLOSED_TEXT))
        self.says(desk, ("bell b", "-"), ("show b", CLOSED_TEXT.replace(": 3", ": -6")))

    def test_things_of_many_figures(self):
        desk = desk_with(((IN, hand("times", 9), OUT, hand("times", 9)), ((0, 1, (7,)), (3, 2, ()), (1, 3, ()))))
        self.says(desk, ("bell a 999999999", str(7 * 81)), ("bell a -999999999", str(999999999 * 81)))
        self.says(desk, ("bell a 0", str(-999999999 * 81)))
        grows = desk_with(((hand("times", 9), OUT), ((0, 0, (999999,)), (0, 1, ()))))
        for bell in range(1, 41):
            self.assertEqual(grows.say("bell a"), str(999999 * 9 ** bell))
        self.assertIn(str(999999 * 9 ** 40), grows.say("show a"))

    def test_asked_of_the_room(self):
        for room in [COUNTER, ECHO, CLOSED, EMPTY] + drawn_rooms(40, 231) + knit_rooms(30, 232):
            desk = desk_with(room)
            a, b = beat(room)
            self.says(
                desk, ("show a", in_a_row(room)), ("time a", str(time_of(room))), ("slowing a", str(least_slowing(room)[0])),
                ("beat a", str(a) if b == 1 else f"{a}/{b}"), ("kinds a", str(len(set(kinds(room))))),
                ("least a any", str(least_time(room, None)[0])), ("bells a", "0"),
            )
            for late in (0, 1, 4):
                self.says(desk, (f"least a {late}", str(least_time(room, late)[0])))
                for time in (0, 3, 20, 400):
                    few, soon = fewest_trays(room, late, time), soonest(room, late, time)
                    self.says(desk, (f"fewest a {time} {late}", str(few[0]) if few else "none"))
                    self.says(desk, (f"soonest a {time} {late}", str(soon[0]) if soon else "none"))

    def test_time_and_late_in_their_order(self):
        line = ((IN, hand("same", moments=2), hand("same", moments=3), OUT), ((0, 1, ()), (1, 2, ()), (2, 3, ())))
        desk = desk_with(line)
        self.says(
            desk, ("least a 0", "5"), ("least a 1", "3"), ("least a any", "3"), ("fewest a 3 0", "none"), ("fewest a 3 1", "1"),
            ("fewest a 5 0", "0"), ("fewest a 5 3", "3"), ("soonest a 3 0", "none"), ("soonest a 3 1", "1"), ("soonest a 3 5", "5"),
            ("soonest a 5 0", "0"),
        )

    def test_beat(self):
        ring = ((hand("same", moments=4), hand("same", moments=4), hand("same", moments=3)), ((0, 1, (1, 1)), (1, 2, ()), (2, 0, ())))
        self.says(desk_with(ring, CLOSED), ("beat a", "11/2"), ("beat b", "5"))

    def test_asked_of_the_room_as_it_stands(self):
        # Behind the first bell the two hands' belts have the same things.
        room = ((IN, hand("same"), hand("same"), OUT), ((0, 1, (1,)), (0, 2, (2,)), (1, 3, ())))
        self.says(desk_with(room), ("kinds a", "4"), ("bell a 5", "1"), ("kinds a", "3"), ("join a", "kept"), ("kinds a", "3"))


class Kept(Telling):
    def test_begun_anew(self):
        for row in ["move a 0 0 0 0", "slow a 1", "join a", f"room a {COUNTER_TEXT}", f"made a {NINE} {FORMULAS_TEXT}"]:
            desk = desk_with(COUNTER)
            self.says(desk, ("bell a 1", "11"), ("bell a 2", "13"), ("bells a", "2"), (row, "kept"), ("bells a", "0"))
        desk = desk_with(COUNTER)
        self.says(desk, ("bell a 1", "11"), ("slow a 1", "kept"), ("bell a 1", "12"), ("bells a", "1"))

    def test_slow(self):
        desk = desk_with(COUNTER)
        self.says(
            desk, ("bell a 1", "11"), ("slow a 2", "kept"), ("show a", COUNTER_TEXT.replace(": 10", ": 11 11")), ("bell a 1", "12"),
            ("bell a 5", "16"), ("bell a 1", "13"), ("slow a 3", "kept"),
            ("show a", COUNTER_TEXT.replace(": 10", ": 16 16 16 13 13 13")), ("bells a", "0"),
        )

    def test_join(self):
        room = ((IN, hand("same", moments=4), hand("same", moments=2), OUT, OUT), ((0, 1, (3,)), (0, 2, (3,)), (1, 3, ()), (2, 4, ())))
        desk = desk_with(room)
        self.says(
            desk, ("bell a 8", "3 3"), ("kinds a", "4"), ("join a", "kept"),
            ("show a", "hand in 0 ; hand same 2 ; hand out 0 ; hand out 0 ; belt 0 1 : 8 ; belt 1 2 : ; belt 1 3 :"),
            ("bell a 9", "8 8"),
        )

    def test_move(self):
        line = ((IN, hand("same", moments=2), hand("same", moments=3), OUT), ((0, 1, ()), (1, 2, ()), (2, 3, (7,))))
        for bells in (1, 2, 3, 6):
            desk = desk_with(line)
            for bell in range(bells):
                self.says(desk, (f"bell a {bell}", str(bell - 1 if bell else 7)))
            self.says(
                desk, ("move a 0 0 0 1 0", "kept"), ("bells a", "0"), ("time a", "3"),
                ("show a", f"hand in 0 ; hand same 2 ; hand same 3 ; hand out 0 ; belt 0 1 : ; belt 1 2 : {bells - 1} ; belt 2 3 :"),
                ("bell a 50", str(bells - 1)), ("bell a 51", "50"),
            )

    def test_move_late(self):
        desk = desk_with(COUNTER)
        self.says(desk, ("bell a 1", "11"), ("bell a 2", "13"), ("bell a 3", "16"), ("move a 2 0 0 2", "kept"))
        # Two bells ago the room stood at 11: its out door makes that again, late by two.
        self.says(desk, ("bell a 4", "13"), ("bell a 5", "16"), ("bell a 0", "20"), ("bells a", "3"))

    def test_moved_as_it_stood(self):
        draw = random.Random(233)
        for seed, room in enumerate([ECHO, COUNTER] + drawn_rooms(50, 234) + knit_rooms(40, 235)):
            late = draw.randrange(0, 3)
            shifts = drawn_shifts(room, late, seed)
            bells = waits(shifts)
            for more in (0, 1, 4):
                rows = drawn_rows(room, bells + more + 5, seed)
                desk = desk_with(room)
                for row in rows[: bells + more]:
                    desk.say(" ".join(["bell a"] + [str(thing) for thing in row]))
                before = standing(room, rows[:more])
                after = moved(before, late, shifts, rows[more: bells + more])
                self.says(desk, (" ".join([f"move a {late}"] + [str(shift) for shift in shifts]), "kept"))
                self.says(desk, ("show a", in_a_row(after)), ("bells a", "0"))
                first = run(room, rows)
                for bell, row in enumerate(rows[bells + more:]):
                    told = desk.say(" ".join(["bell a"] + [str(thing) for thing in row]))
                    if doors_out(room):
                        self.assertEqual(told, " ".join(str(thing) for thing in first[bell + more + bells - late]))
                    else:
                        self.assertEqual(told, "-")

    def test_bells_count_from_where_it_was_kept(self):
        desk = desk_with(COUNTER)
        self.says(desk, ("bell a 1", "11"), ("bell a 1", "12"), ("slow a 1", "kept"))
        self.assertIs(type(raised(NoRow, desk.say, "move a 1 0 0 1")), NoRow)
        self.says(desk, ("bell a 1", "13"), ("move a 1 0 0 1", "kept"))
        self.assertIs(type(raised(NoRow, desk.say, "move a 1 0 0 1")), NoRow)

    def test_changed_as_the_functions_do(self):
        for seed, room in enumerate(drawn_rooms(40, 236) + knit_rooms(30, 237)):
            desk = desk_with(room, room)
            rows = drawn_rows(room, 4, seed)
            for name in "ab":
                for row in rows:
                    desk.say(" ".join([f"bell {name}"] + [str(thing) for thing in row]))
            stands = standing(room, rows)
            self.says(desk, ("show a", in_a_row(stands)), ("slow a 3", "kept"), ("show a", in_a_row(slowed(stands, 3))))
            self.says(desk, ("join b", "kept"), ("show b", in_a_row(joined_alike(stands))))
            self.says(desk, ("slow a 2", "kept"), ("show a", in_a_row(slowed(stands, 6))))

    def test_several_names_and_two_desks(self):
        one, other = desk_with(COUNTER, COUNTER), desk_with(COUNTER)
        self.says(one, ("bell a 1", "11"), ("bell b 5", "15"), ("bell a 1", "12"), ("bells b", "1"))
        self.says(other, ("bells a", "0"), ("bell a 2", "12"))
        self.assertEqual(raised(NoName, other.say, "show b").name, "b")
        self.says(one, ("slow b 2", "kept"), ("show a", COUNTER_TEXT.replace(": 10", ": 12")), ("bells a", "2"))

    def test_asking_changes_nothing(self):
        desk = desk_with(ECHO)
        desk.say("bell a 4")
        before = [desk.say(row) for row in ASKING]
        self.assertEqual([desk.say(row) for row in ASKING[::-1]], before[::-1])


class Refused(unittest.TestCase):
    def refuses(self, desk, given, refusal, **fields):
        """That a row is refused so, and that nothing is changed by it."""
        before = state(desk)
        error = raised(BeltError, desk.say, given)
        self.assertIs(type(error), refusal, given)
        self.assertEqual(vars(error), fields, given)
        self.assertEqual(state(desk), before)

    def test_what_is_no_text(self):
        desk = desk_with(COUNTER)
        for thing in (None, 5, True, ["show a"], ("show", "a"), b"show a", {}):
            self.refuses(desk, thing, NoRow)

    def test_no_row(self):
        desk = desk_with(COUNTER)
        for row in [
            "", " ", "a", "show", "show ", " show a", "show  a", "Show a", "showa", "tell a", "kept", "kept a", "rooms a", "made", "room",
            "room ", "room a", "made a", "bell", "bell ", "move", "move a", "move a ", "least a", "least a ", "slow a", "fewest a",
            "fewest a 3", "soonest a 3", "fewest a 3 ", "any a", "none", "- a", "N a", "; show a", "show a ; show a",
        ]:
            self.refuses(desk, row, NoRow)

    def test_blanks_and_line_feeds(self):
        desk = desk_with(COUNTER)
        for row in ASKING + CHANGING:
            self.refuses(desk, row + " ", NoRow)
            self.refuses(desk, " " + row, NoRow)
            self.refuses(desk, row.replace(" ", "  ", 1), NoRow)
            self.refuses(desk, row + "\n", NoRow)
            self.refuses(desk, "\n" + row, NoRow)
            self.refuses(desk, row.replace(" ", "\n", 1), NoRow)
            head, blank, tail = row.rpartition(" ")
            self.refuses(desk, f"{head}  {tail}", NoRow)
        self.refuses(desk, f"room a {COUNTER_TEXT}\n", NoRow)
        self.refuses(desk, "room a " + COUNTER_TEXT.replace(" ; ", "\n"), NoRow)
        self.refuses(desk, f"made a {NINE} " + FORMULAS_TEXT.replace(" ; ", "\n", 1), NoRow)

    def test_names(self):
        desk = desk_with(COUNTER)
        for name in ["in", "out", "was", "if", "then", "else", "most", "least", "A", "a1", "abcdefg", "", "a-b", "1", "any:"]:
            for row in ASKING + CHANGING + [f"room a {COUNTER_TEXT}", f"made a {NINE} {FORMULAS_TEXT}"]:
                self.refuses(desk, row.replace(" a", f" {name}", 1), NoRow)
        for name in ["room", "bell", "show", "any", "none", "abcdef"]:
            for row in ASKING + CHANGING:
                self.refuses(desk, row.replace(" a", f" {name}", 1), NoName, name=name)
            self.assertEqual(desk.say(f"room {name} {COUNTER_TEXT}"), "kept")
            self.assertEqual(desk.say(f"show {name}"), COUNTER_TEXT)

    def test_too_many_words(self):
        desk = desk_with(COUNTER)
        for row in ASKING + ["slow a 2", "join a"]:
            for word in ("a", "0", "1", "any", ":"):
                self.refuses(desk, f"{row} {word}", NoRow)

    def test_numbers(self):
        desk = desk_with(COUNTER)
        for number in ["x", "+1", "01", "-0", "1.0", "1,", "--1", "", "1234567890", "-1234567890", "0x1", "1_0", "none", ":"]:
            for row in [
                "bell a {}", "bell a 1 {}", "least a {}", "fewest a {} 0", "fewest a 2 {}", "soonest a {} 0", "soonest a 2 {}", "slow a {}",
                "move a {} 0 0 0", "move a 0 0 {} 0", "move a 0 0 0 {}", "made a 1 1 1 {} 1 1 1 1 1 in ; out",
            ]:
                self.refuses(desk, row.format(number), NoRow)
        for row in [
            "least a -1", "fewest a -1 0", "fewest a 2 -1", "fewest a any 0", "fewest a 2 any", "soonest a -1 0", "soonest a 2 -1",
            "soonest a 2 any", "slow a 0", "slow a -1", "slow a any", "move a -1 0 0 -1", "move a any 0 0 0", "bell a any",
            "made a -1 1 1 1 1 1 1 1 1 in ; out", "made a 1 1 1 1 1 1 1 1 -1 in ; out", "made a 1 1 1 1 1 1 1 1 in ; out",
        ]:
            self.refuses(desk, row, NoRow)
        self.assertEqual(desk.say("bell a 999999989"), "999999999")
        self.assertEqual(desk.say("bell a -999999999"), "0")
        self.assertEqual(desk.say("fewest a 999999999 0"), "1")

    def test_no_name(self):
        desk = desk_with(COUNTER)
        for row in ASKING + CHANGING + ["bell a", "bell a 1 2 3", "move a 5", "move a 5 1 2 3 4 5", "slow a 1"]:
            self.refuses(desk, row.replace(" a", " b", 1), NoName, name="b")
            self.refuses(Desk(), row, NoName, name="a")

    def test_no_row_ahead_of_no_name(self):
        desk = desk_with(COUNTER)
        for row in ["bell b x", "least b", "least b -1", "slow b 0", "move b", "move b x", "show b ", "fewest b 1"]:
            self.refuses(desk, row, NoRow)

    def test_texts_of_rooms(self):
        desk = desk_with(COUNTER)
        for text, row in [
            ("x", 0), (" ", 0), ("hand", 0), ("hand in 0 ", 0), ("hand in 0 ;", 0), ("hand in 0 ; ", 1), (" ; hand in 0", 0),
            ("hand in 0  ; hand in 0", 0), ("hand in 0 ;  hand in 0", 1), ("hand in 0 ; hand in 0 ; belt 0 1", 2),
            ("hand in 0;hand in 0", 0), ("hand in 0 ; belt 0 0 : ; hand in 0", 2), ("hand in 00", 0), ("hand in 1234567890", 0),
            (" hand in 0", 0),
        ]:
            for name in "ab":
                self.refuses(desk, f"room {name} {text}", NoText, row=row)

    def test_rooms(self):
        desk = desk_with(COUNTER)
        for text, word, at in [
            ("hand in 5", "hand", (0,)), ("hand in 0 ; belt 0 1 :", "belt", (0,)), ("hand in 0 ; hand out 0", "count", (1,)),
            ("hand always 1 1 ; hand same 1 ; belt 1 1 :", "ring", (1,)),
        ]:
            for name in "ab":
                self.refuses(desk, f"room {name} {text}", NoRoom, word=word, at=at)

    def test_texts_of_formulas(self):
        desk = desk_with(COUNTER)
        for text, row in [
            ("", 0), ("in", 0), ("in a", 0), ("out", 0), ("in ; out ", 1), ("in a ; x = ; out x", 1), ("in a ; x = a ; x", 2), (" in ; out", 0),
            ("in;out", 0), ("in ; ; out", 1), ("in ; out ; out", 1), ("in ; x = 1234567890 ; out x", 1),
        ]:
            for name in "ab":
                self.refuses(desk, f"made {name} {NINE} {text}", NoText, row=row)

    def test_formulas(self):
        desk = desk_with(COUNTER)
        for text, word, called in [
            ("in a a ; out", "twice", "a"), ("in a ; was a : 1 ; was a : ; out", "again", "a"), ("in ; x = y ; out", "lost", "y"),
            ("in ; out z", "lost", "z"), ("in ; x = x + 1 ; out x", "ring", "x"),
        ]:
            for name in "ab":
                self.refuses(desk, f"made {name} {NINE} {text}", NoFormula, word=word, name=called)

    def test_shifts(self):
        desk = desk_with(COUNTER)
        for bells in range(2):
            for row, word, at in [
                ("move a 0", "form", ()), ("move a 0 0 0", "form", ()), ("move a 0 0 0 0 0", "form", ()), ("move a 0 1 0 0", "door", (0,)),
                ("move a 0 0 0 1", "door", (2,)), ("move a 1 0 0 0", "door", (2,)), ("move a 0 0 -1 0", "belt", (0,)),
                ("move a 0 0 1 0", "belt", (2,)), ("move a 9 0 20 9", "belt", (2,)), ("move a 5 9 9 9 9", "form", ()),
            ]:
                self.refuses(desk, row, NoShift, word=word, at=at)
            desk.say("bell a 3")

    def test_things_not_as_many_as_in_doors(self):
        desk = desk_with(COUNTER, CLOSED, ((IN, IN), ()))
        for row in ["bell a", "bell a 1 2", "bell b 1", "bell b 1 2", "bell c", "bell c 1", "bell c 1 2 3"]:
            self.refuses(desk, row, NoRow)

    def test_fewer_bells_than_shifts_wait(self):
        desk = desk_with(COUNTER)
        for bells in range(4):
            for late in range(bells + 1, 7):
                self.refuses(desk, f"move a {late} 0 0 {late}", NoRow)
                self.refuses(desk, f"move a {late} 0 {late} {late}", NoRow)
            desk.say("bell a 2")
        self.assertEqual(desk.say("move a 4 0 4 4"), "kept")

    def test_by_chance(self):
        draw = random.Random(238)
        heads = "room made show bell bells time least fewest soonest slowing beat kinds move slow join".split()
        words = "any 0 0 0 1 -1 2 ; : hand in out".split()
        refused = told = 0
        desk = desk_with(COUNTER)
        for turn in range(3000):
            tail = [draw.choice(words) for word in range(draw.randrange(0, 5))]
            row = " ".join([draw.choice(heads), draw.choice(["a", "a", "a", "b", "A"])] + tail)
            # Slowed again and again a room would have ever more trays.
            if row.startswith("slow a 2"):
                continue
            before = state(desk)
            try:
                self.assertIs(type(desk.say(row)), str)
                told += 1
            except BeltError:
                refused += 1
                self.assertEqual(state(desk), before)
        self.assertGreater(refused, 1000)
        self.assertGreater(told, 100)


def state(desk):
    """All that a desk shows of the rooms a, b and c."""
    told = []
    for name in "abc":
        for row in ["show", "bells"]:
            try:
                told.append(desk.say(f"{row} {name}"))
            except NoName:
                told.append(None)
    return told


class Reading(unittest.TestCase):
    def test_show_is_read_again(self):
        for seed, room in enumerate(drawn_rooms(60, 239)):
            desk = desk_with(room)
            for row in drawn_rows(room, 3, seed):
                desk.say(" ".join(["bell a"] + [str(thing) for thing in row]))
            text = desk.say("show a")
            self.assertEqual(read_room(text.replace(" ; ", "\n")), standing(room, drawn_rows(room, 3, seed)))
            self.assertEqual(desk.say(f"room b {text}"), "kept")
            self.assertEqual(desk.say("show b"), text)
            self.assertEqual(len(doors_in(room)), len(doors_in(read_room(text.replace(" ; ", "\n")))))
