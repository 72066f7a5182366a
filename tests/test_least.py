import copy
import unittest

from beltshift.bars import bar_holds
from beltshift.formulatexts import read_formulas
from beltshift.least import least_time, shifts_or_bar
from beltshift.lookers import shifts_hold
from beltshift.maker import made_room
from beltshift.moving import moved
from beltshift.rooms import doors_out
from beltshift.runs import run
from beltshift.shifts import look_shifts, waits
from beltshift.ways import time_of
from tests.samples import CLOSED, COUNTER, ECHO, EMPTY, IN, OUT, drawn_rooms, drawn_rows, hand
from tests.test_lookers import LINE, reaches, shifts_within

LATES = (None, 0, 1, 2, 3, 4, 5, 6)

# Four hands hand on with trays between them, three add up without any, from the last of the four back to the first.
LADDER = (
    (
        IN, hand("same", moments=3), hand("same", moments=3), hand("same", moments=3), hand("same", moments=3),
        hand("sum", moments=7), hand("sum", moments=7), hand("sum", moments=7), OUT,
    ),
    (
        (0, 1, ()), (1, 2, (0,)), (2, 3, (0,)), (3, 4, (0,)), (4, 5, ()), (3, 5, ()), (5, 6, ()), (2, 6, ()), (6, 7, ()),
        (1, 7, ()), (7, 8, ()),
    ),
)


def small_rooms(many, seed):
    """Rooms with at most three hands that are no doors, so that all shifts within bounds can be tried."""
    rooms = drawn_rooms(many, seed)
    return [room for room in rooms if len([1 for rule, spent in room[0] if rule not in (("in",), ("out",))]) <= 3]


class Papers(unittest.TestCase):
    def is_shifts(self, room, late, time, shifts):
        self.assertIs(type(shifts), tuple)
        self.assertEqual([type(shift) for shift in shifts], [int] * len(room[0]))
        self.assertIs(shifts_hold(room, late, time, shifts), True, (room, late, time, shifts))
        self.assertTrue(reaches(room, late, time, shifts))

    def is_bar(self, room, late, time, bar):
        self.assertIs(type(bar), tuple)
        for begin, numbers in bar:
            self.assertIs(type(begin), int)
            self.assertIs(type(numbers), tuple)
        self.assertIs(bar_holds(room, late, time, bar), True, (room, late, time, bar))

    def is_paper(self, room, late, time):
        kept = copy.deepcopy(room)
        told = shifts_or_bar(room, late, time)
        self.assertEqual(room, kept)
        self.assertIs(type(told), tuple)
        word, paper = told
        self.assertIn(word, ("shifts", "bar"))
        if word == "shifts":
            self.is_shifts(room, late, time, paper)
        else:
            self.is_bar(room, late, time, paper)
        return word

    def least(self, room, late):
        kept = copy.deepcopy(room)
        told = least_time(room, late)
        self.assertEqual(room, kept)
        self.assertIs(type(told), tuple)
        time, shifts, bar = told
        self.assertIs(type(time), int)
        self.is_shifts(room, late, time, shifts)
        if time == 0:
            self.assertIsNone(bar)
        else:
            self.is_bar(room, late, time - 1, bar)
        return time


class ShiftsOrBar(Papers):
    def test_line(self):
        for time in range(12):
            self.assertEqual(self.is_paper(LINE, None, time), "shifts" if time >= 4 else "bar")
            self.assertEqual(self.is_paper(LINE, 0, time), "shifts" if time >= 4 else "bar")

    def test_lateness(self):
        hands = (IN, hand("same", moments=2), hand("same", moments=3), hand("same", moments=4), OUT)
        room = (hands, ((0, 1, ()), (1, 2, ()), (2, 3, ()), (3, 4, ())))
        for late, least in [(0, 9), (1, 5), (2, 4), (3, 4), (6, 4), (None, 4)]:
            for time in range(12):
                self.assertEqual(self.is_paper(room, late, time), "shifts" if time >= least else "bar", (late, time))

    def test_another_in_door(self):
        hands = (IN, hand("same", moments=4), OUT, IN, hand("same", moments=5), hand("same", moments=6), OUT)
        room = (hands, ((0, 1, (1,)), (1, 2, ()), (3, 4, ()), (4, 5, ()), (5, 6, ())))
        for late, least in [(0, 11), (1, 6), (None, 6)]:
            for time in range(14):
                self.assertEqual(self.is_paper(room, late, time), "shifts" if time >= least else "bar", (late, time))

    def test_way_over_both_doors(self):
        # By lateness 1 the one line has a tray to spare and the other lacks none, so a walk over both does not bar.
        hands = (IN, IN, hand("sum", moments=5), hand("same", moments=5), OUT, OUT)
        room = (hands, ((0, 2, ()), (1, 2, (7,)), (2, 3, ()), (3, 4, ()), (2, 5, ())))
        for late, least in [(0, 10), (1, 5), (None, 5)]:
            for time in range(12):
                self.assertEqual(self.is_paper(room, late, time), "shifts" if time >= least else "bar", (late, time))

    def test_rooms_that_lack_something(self):
        lone = ((hand("always", 1, moments=3), hand("always", 2, moments=5)), ())
        ins = ((IN, hand("same", moments=2), hand("same", moments=3), IN), ((0, 1, ()), (1, 2, ())))
        outs = ((hand("always", 1, moments=2), hand("same", moments=3), OUT, OUT), ((0, 1, ()), (1, 2, ()), (0, 3, ())))
        doors = ((IN, IN, OUT), ((1, 2, ()),))
        for late in LATES:
            for time in range(8):
                self.assertEqual(shifts_or_bar(EMPTY, late, time), ("shifts", ()))
                self.assertEqual(self.is_paper(lone, late, time), "shifts" if time >= 5 else "bar")
                self.assertEqual(self.is_paper(ins, late, time), "shifts" if time >= 3 else "bar")
                self.assertEqual(self.is_paper(outs, late, time), "shifts" if time >= 3 else "bar")
                self.assertEqual(self.is_paper(doors, late, time), "shifts")
                self.assertEqual(self.is_paper(CLOSED, late, time), "shifts" if time >= 5 else "bar")

    def test_below_the_greatest_moments_of_a_hand(self):
        for room in [room for room in drawn_rooms(80, 91) if room[0]]:
            greatest = max(moments for rule, moments in room[0])
            for late in LATES:
                for time in range(greatest):
                    self.assertEqual(self.is_paper(room, late, time), "bar")

    def test_by_chance(self):
        words = []
        for room in drawn_rooms(150, 92):
            for late in LATES:
                for time in (0, 3, 4, 5, 6, 8, 11, 400):
                    words.append(self.is_paper(room, late, time))
        self.assertGreater(words.count("shifts"), 500)
        self.assertGreater(words.count("bar"), 500)

    def test_against_all_shifts_within_bounds(self):
        reached = barred = 0
        for room in small_rooms(150, 93):
            for late in (None, 0, 1):
                for time in (2, 4, 6):
                    some = any(reaches(room, late, time, shifts) for shifts in shifts_within(room, late, 3))
                    word = self.is_paper(room, late, time)
                    if some:
                        self.assertEqual(word, "shifts")
                        reached += 1
                    if word == "bar":
                        self.assertFalse(some)
                        barred += 1
        self.assertGreater(reached, 100)
        self.assertGreater(barred, 100)

    def test_asked_again(self):
        first = [shifts_or_bar(LADDER, late, time) for late in LATES for time in (6, 7, 12, 13, 24)]
        least_time(ECHO, None)
        self.assertEqual([shifts_or_bar(LADDER, late, time) for late in LATES for time in (6, 7, 12, 13, 24)], first)


class LeastTime(Papers):
    def test_ladder(self):
        self.assertEqual(time_of(LADDER), 24)
        for late, time in [(0, 14), (1, 9), (2, 7), (3, 7), (4, 7), (6, 7), (None, 7)]:
            self.assertEqual(self.least(LADDER, late), time, late)

    def test_a_ring_that_closes(self):
        # The ladder without doors, its last hand handing on to the first one over a tray.
        hands, belts = LADDER
        closed = (hands[1:8], ((6, 0, (5,)),) + tuple((g - 1, t - 1, things) for g, t, things in belts[1:-1]))
        self.assertEqual(time_of(closed), 24)
        for late in LATES:
            self.assertEqual(self.least(closed, late), 13)

    def test_written_out(self):
        for late in LATES:
            self.assertEqual(least_time(EMPTY, late), (0, (), None))
            self.assertEqual(self.least(COUNTER, late), 2)
            self.assertEqual(self.least(CLOSED, late), 5)
            self.assertEqual(self.least(LINE, late), 4)
            self.assertEqual(self.least(ECHO, late), 3)
            self.assertEqual(self.least(((IN, OUT), ((0, 1, ()),)), late), 0)
            self.assertEqual(self.least(((IN, hand("same", moments=0), OUT), ((0, 1, ()), (1, 2, ()))), late), 0)

    def test_against_all_shifts_within_bounds(self):
        for room in small_rooms(80, 94):
            for late in (None, 0, 1):
                time = self.least(room, late)
                within = list(shifts_within(room, late, 3))
                if time > 0:
                    self.assertFalse(any(reaches(room, late, time - 1, shifts) for shifts in within))

    def test_by_chance(self):
        for room in drawn_rooms(200, 95):
            times = [self.least(room, late) for late in LATES]
            greatest = max([moments for rule, moments in room[0]], default=0)
            self.assertEqual(times[1:], sorted(times[1:], reverse=True))
            self.assertLessEqual(times[0], times[-1])
            self.assertLessEqual(greatest, times[0])
            self.assertLessEqual(times[1], time_of(room))

    def test_a_great_lateness_is_any(self):
        for room in drawn_rooms(40, 96):
            self.assertEqual(self.least(room, 60), self.least(room, None))

    def test_the_moved_room_has_the_time_and_goes_on(self):
        for seed, room in enumerate([LADDER, ECHO, CLOSED] + drawn_rooms(60, 97)):
            for late in (0, 1, 3):
                time, shifts, bar = least_time(room, late)
                bells = waits(shifts)
                rows = drawn_rows(room, bells + 8, seed)
                after = moved(room, late, shifts, rows[:bells])
                self.assertEqual(time_of(after), time)
                self.assertEqual(self.least(after, 0), time)
                first = run(room, rows)
                for bell, out in enumerate(run(after, rows[bells:])):
                    if doors_out(room):
                        self.assertEqual(out, first[bell + bells - late])

    def test_any_lateness_is_told_by_the_shifts(self):
        for room in [LADDER, ECHO] + drawn_rooms(40, 98):
            time, shifts, bar = least_time(room, None)
            lates = [shift for (rule, moments), shift in zip(room[0], shifts) if rule == ("out",)]
            if lates:
                self.assertIs(look_shifts(room, lates[0], shifts), True)
                self.assertEqual(self.least(room, lates[0]), time)

    def test_a_made_room(self):
        formulas = read_formulas(
            "in a b\nwas y : 3 4\nx = a + b - ( a - 2 * b )\ny = most ( x , y @ 2 ) - y @ 1\nz = if x < y then z @ 1 else 4"
            "\nout y x z"
        )
        room = made_room(formulas, (1, 2, 3, 4, 5, 6, 7, 8, 9))
        times = [self.least(room, late) for late in (0, 1, 2, 3, None)]
        self.assertEqual(times, sorted(times, reverse=True))
        self.assertEqual(times[-1], 9)

    def test_papers_keep_to_the_bounds(self):
        for room in [LADDER] + drawn_rooms(100, 99):
            for late in LATES:
                time, shifts, bar = least_time(room, late)
                self.assertTrue(all(-20 <= shift <= 20 for shift in shifts))
                self.assertLessEqual(len(bar or ()), 40)
                self.assertLessEqual(sum(len(numbers) for begin, numbers in bar or ()), 300)

    def test_asked_again(self):
        for room in [EMPTY, LADDER] + drawn_rooms(30, 100):
            for late in (None, 2):
                first = least_time(room, late)
                shifts_or_bar(LADDER, 1, 9)
                self.assertEqual(least_time(room, late), first)
