import copy
import unittest

from beltshift.errors import NoShift
from beltshift.shifts import look_shifts, trays_moved, waits
from tests.samples import CLOSED, COUNTER, ECHO, EMPTY, IN, OUT, drawn_rooms, drawn_shifts, hand, raised

LINE = (
    (IN, hand("same"), hand("same"), hand("same"), OUT),
    ((0, 1, ()), (1, 2, (1, 2)), (2, 3, ()), (3, 4, (3,))),
)
DOORS = ((OUT, IN, OUT, IN), ((1, 0, (4, 4)), (3, 2, (5, 5))))


class LookShifts(unittest.TestCase):
    def let_by(self, room, late, shifts):
        kept = copy.deepcopy(room)
        for turn in range(2):
            self.assertIs(look_shifts(room, late, shifts), True)
        self.assertEqual(room, kept)

    def refused(self, word, at, room, late, shifts):
        kept = copy.deepcopy((room, shifts))
        error = raised(NoShift, look_shifts, room, late, shifts)
        self.assertEqual((error.word, error.at), (word, at), shifts)
        self.assertIs(type(error.at), tuple)
        self.assertEqual((room, shifts), kept)

    def test_let_by(self):
        self.let_by(EMPTY, 0, ())
        self.let_by(EMPTY, 6, ())
        for room in [COUNTER, ECHO, CLOSED, LINE]:
            self.let_by(room, 0, (0,) * len(room[0]))
        for shifts in [(0, 0, -1, -1, 0), (0, 0, -2, -2, 0), (0, 0, 0, 1, 0), (0, 1, 1, 1, 0), (0, 2, 0, 1, 0)]:
            self.let_by(LINE, 0, shifts)
        for shifts in [(0, 0, 0, 0, 3), (0, 3, 3, 3, 3), (0, 4, 4, 4, 3), (0, 5, 3, 4, 3), (0, 0, 1, 2, 3)]:
            self.let_by(LINE, 3, shifts)
        self.let_by(CLOSED, 0, (5, 5, -20))
        self.let_by(CLOSED, 0, (-3, -2, 7))

    def test_form(self):
        for thing in [
            [0] * 5, (0,) * 4, (0,) * 6, (), None, True, 5, "00000", "", (0, 0, 0, 0, False), (True, 0, 0, 0, 0),
            (0, 0, "0", 0, 0), (0, None, 0, 0, 0), (0, 0, 0, (), 0), (0, 0, 0, 0, [0]), ((0, 0, 0, 0, 0),), [],
            (0, 0, 0, 0, "late"), (0, 0, (0,), 0, 0),
        ]:
            self.refused("form", (), LINE, 0, thing)
        for thing in [[], (0,), None, "", 0, False, ((),)]:
            self.refused("form", (), EMPTY, 0, thing)

    def test_door(self):
        self.refused("door", (0,), LINE, 0, (1, 1, 1, 1, 1))
        self.refused("door", (0,), LINE, 0, (-1, 0, 0, 0, 0))
        self.refused("door", (4,), LINE, 0, (0, 0, 0, 0, 1))
        self.refused("door", (4,), LINE, 2, (0, 0, 0, 0, 0))
        self.refused("door", (4,), LINE, 2, (0, 0, 0, 0, 3))
        self.refused("door", (0,), LINE, 2, (2, 2, 2, 2, 2))

    def test_doors_in_the_order_of_hands(self):
        self.let_by(DOORS, 0, (0, 0, 0, 0))
        self.let_by(DOORS, 2, (2, 0, 2, 0))
        self.refused("door", (0,), DOORS, 2, (0, 2, 0, 2))
        self.refused("door", (1,), DOORS, 2, (2, 1, 1, 1))
        self.refused("door", (2,), DOORS, 2, (2, 0, 3, 1))
        self.refused("door", (2,), DOORS, 2, (2, 0, 0, 0))
        self.refused("door", (3,), DOORS, 2, (2, 0, 2, 2))

    def test_belt(self):
        self.refused("belt", (0,), LINE, 0, (0, -1, -1, -1, 0))
        self.refused("belt", (1,), LINE, 0, (0, 3, 0, 0, 0))
        self.refused("belt", (2,), LINE, 0, (0, 0, 0, -1, 0))
        self.refused("belt", (3,), LINE, 0, (0, 0, 2, 2, 0))
        self.refused("belt", (1,), LINE, 0, (0, 3, 0, 0, 0))
        self.refused("belt", (0,), LINE, 0, (0, -1, -4, -5, 0))
        self.refused("belt", (0,), CLOSED, 0, (0, 2, 0))
        self.refused("belt", (1,), CLOSED, 0, (1, 0, 0))

    def test_a_belt_to_itself_never_changes(self):
        room = ((hand("same"),), ((0, 0, (1,)),))
        for shift in range(-20, 21):
            self.let_by(room, 0, (shift,))

    def test_which_comes_first(self):
        self.refused("form", (), LINE, 0, (7, -9, 0, 0, True))
        self.refused("form", (), LINE, 0, (7, -9, 0, 0, 0, 0))
        self.refused("door", (0,), LINE, 0, (7, -9, 0, 0, 9))
        self.refused("door", (4,), LINE, 0, (0, -9, 0, 0, 9))
        self.refused("belt", (0,), LINE, 0, (0, -9, 9, -9, 0))

    def test_no_out_door(self):
        room = ((IN, hand("same")), ((0, 1, (1,)),))
        for late in (0, 1, 6):
            self.let_by(room, late, (0, 3))
            self.refused("door", (0,), room, late, (late + 1, 9))
            self.refused("belt", (0,), room, late, (0, -2))

    def test_as_the_words_have_it(self):
        for seed, room in enumerate(drawn_rooms(150, 51)):
            late = seed % 7
            shifts = drawn_shifts(room, late, seed)
            self.let_by(room, late, shifts)
            for number, (rule, moments) in enumerate(room[0]):
                for change in (-7, -1, 1, 7):
                    other = shifts[:number] + (shifts[number] + change,) + shifts[number + 1:]
                    short = [
                        belt for belt, (giver, taker, things) in enumerate(room[1])
                        if len(things) + other[taker] - other[giver] < 0
                    ]
                    if rule in (("in",), ("out",)):
                        self.refused("door", (number,), room, late, other)
                    elif short:
                        self.refused("belt", (short[0],), room, late, other)
                    else:
                        self.let_by(room, late, other)


class Waits(unittest.TestCase):
    def test_waits(self):
        for shifts, many in [
            ((), 0), ((0,), 0), ((0, 0), 0), ((-1,), 0), ((-3, -2, -20), 0), ((5,), 5), ((-1, 4, 0, 2), 4), ((20, 20), 20),
            ((-2, 0), 0), ((1, -9), 1),
        ]:
            self.assertEqual(waits(shifts), many)
            self.assertIs(type(waits(shifts)), int)


class TraysMoved(unittest.TestCase):
    def test_trays(self):
        self.assertEqual(trays_moved(LINE, (0,) * 5), [0, 2, 0, 1])
        self.assertEqual(trays_moved(LINE, (0, 1, 1, 2, 3)), [1, 2, 1, 2])
        self.assertEqual(trays_moved(LINE, (0, 0, -2, -2, 0)), [0, 0, 0, 3])
        self.assertEqual(trays_moved(CLOSED, (-2, -1, 9)), [0, 1])
        self.assertEqual(trays_moved(COUNTER, (0, 0, 6)), [0, 1, 6])
        self.assertEqual(trays_moved(EMPTY, ()), [])
        self.assertEqual(trays_moved(((IN, IN), ()), (0, 0)), [])

    def test_told_anew(self):
        first = trays_moved(LINE, (0, 1, 1, 2, 3))
        self.assertIs(type(first), list)
        first.clear()
        self.assertEqual(trays_moved(LINE, (0, 1, 1, 2, 3)), [1, 2, 1, 2])
