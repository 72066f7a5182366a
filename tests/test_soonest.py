import copy
import random
import unittest

from beltshift.least import least_time, shifts_or_bar
from beltshift.lookers import shifts_hold
from beltshift.moving import moved
from beltshift.rooms import doors_in, doors_out
from beltshift.runs import run
from beltshift.shifts import waits
from beltshift.soonest import soonest, walk_holds
from tests.samples import (
    CLOSED, COUNTER, ECHO, EMPTY, IN, OUT, are_plain_ways, drawn_rooms, drawn_rows, hand, knit_rooms,
)
from tests.test_bars import TWO, joins, walks
from tests.test_least import LADDER, small_rooms
from tests.test_lookers import LINE, reaches, shifts_within
from tests.test_ways import counted

# Moments 2, 3 and 4 one behind the other, and no out door: the farther a hand, the later it must work.
DEAD_END = (
    (IN, hand("same", moments=2), hand("same", moments=3), hand("same", moments=4)),
    ((0, 1, ()), (1, 2, ()), (2, 3, ())),
)
ENOUGH = 400


class Soonest(unittest.TestCase):
    def many(self, room, late, time):
        """The number that is told, with its papers looked at; None where nothing is."""
        kept = copy.deepcopy(room)
        told = soonest(room, late, time)
        self.assertEqual(room, kept)
        self.assertEqual(told is None, shifts_or_bar(room, late, time)[0] == "bar")
        if told is None:
            return None
        self.assertIs(type(told), tuple)
        many, shifts, walk = told
        self.assertIs(type(many), int)
        self.assertIs(type(shifts), tuple)
        self.assertEqual([type(shift) for shift in shifts], [int] * len(room[0]))
        self.assertIs(shifts_hold(room, late, time, shifts), True)
        self.assertTrue(reaches(room, late, time, shifts))
        self.assertEqual(waits(shifts), many)
        if many == 0 or (many == late and doors_out(room)):
            self.assertIsNone(walk)
        else:
            self.assertTrue(are_plain_ways(walk))
            self.assertIs(walk_holds(room, late, time, many, walk), True, (room, late, time, told))
        return many

    def test_dead_end(self):
        for late in range(7):
            for time, many in [(0, None), (3, None), (4, 2), (5, 1), (6, 1), (7, 1), (8, 1), (9, 0), (400, 0)]:
                self.assertEqual(self.many(DEAD_END, late, time), many, time)

    def test_told_in_full(self):
        self.assertEqual(soonest(DEAD_END, 3, 9), (0, (0, 0, 0, 0), None))
        self.assertEqual(soonest(DEAD_END, 3, 4)[:2], (2, (0, 0, 1, 2)))
        self.assertEqual(soonest(EMPTY, 4, 0), (0, (), None))

    def test_with_an_out_door(self):
        # All that the line needs lies behind the tray on its last belt, so each lateness waits one bell more.
        hands, belts = DEAD_END
        room = (hands + (OUT,), belts + ((3, 4, (5,)),))
        for late, time, many in [(0, 4, None), (0, 5, 1), (0, 9, 0), (1, 4, 2), (1, 5, 1), (1, 9, 1), (2, 4, 2), (6, 4, 6)]:
            self.assertEqual(self.many(room, late, time), many, (late, time))

    def test_none_by_the_lateness(self):
        for late, least in [(0, 14), (1, 9), (2, 7), (3, 7)]:
            self.assertIsNone(self.many(LADDER, late, least - 1))
            self.assertIsNotNone(self.many(LADDER, late, least))
        # What hangs on no in door may be ever so early.
        self.assertEqual([self.many(LINE, 0, time) for time in (3, 4, 7, 9)], [None, 1, 0, 0])

    def test_hands_that_no_in_door_leads_to(self):
        hands = (IN, hand("always", 1, moments=5), hand("sum", moments=5), hand("same", moments=5))
        room = (hands, ((1, 2, ()), (0, 2, ()), (2, 3, ())))
        for late in range(7):
            for time, many in [(4, None), (5, 1), (9, 1), (10, 0), (15, 0)]:
                self.assertEqual(self.many(room, late, time), many)

    def test_rooms_that_lack_something(self):
        outs = ((hand("always", 1, moments=2), hand("same", moments=3), OUT, OUT), ((0, 1, ()), (1, 2, ()), (0, 3, ())))
        doors = ((IN, IN, OUT), ((1, 2, ()),))
        for late in range(7):
            self.assertEqual(self.many(EMPTY, late, 0), 0)
            self.assertEqual(self.many(CLOSED, late, 5), 0)
            self.assertEqual(self.many(CLOSED, late, 4), None)
            self.assertEqual(self.many(outs, late, 3), late)
            self.assertEqual(self.many(outs, late, 2), None)
            self.assertEqual(self.many(doors, late, 0), late)
            self.assertEqual(self.many(((IN, IN), ()), late, 0), 0)
            self.assertEqual(self.many(((OUT, hand("always", 3, moments=0)), ((1, 0, ()),)), late, 0), late)
            self.assertEqual(self.many(COUNTER, late, 2), late)
            self.assertEqual(self.many(ECHO, late, 3), max(late, 1))

    def test_two_in_doors(self):
        hands = (IN, IN, hand("same", moments=4), hand("sum", moments=4), hand("same", moments=4))
        room = (hands, ((0, 2, ()), (2, 3, (1, 2)), (1, 3, ()), (3, 4, ())))
        self.assertEqual([self.many(room, 0, time) for time in (3, 4, 7, 8)], [None, 1, 1, 0])
        less = (hands, ((0, 2, ()), (2, 3, ()), (1, 3, ()), (3, 4, ())))
        self.assertEqual([self.many(less, 0, time) for time in (3, 4, 7, 8, 11, 12)], [None, 2, 2, 1, 1, 0])

    def test_against_all_shifts_within_bounds(self):
        waiting = 0
        for room in small_rooms(60, 111) + small_rooms_knit(60, 112):
            for late in (0, 1):
                least = least_time(room, late)[0]
                for time in (least, least + 3):
                    many = self.many(room, late, time)
                    within = [shifts for shifts in shifts_within(room, late, 3) if reaches(room, late, time, shifts)]
                    self.assertFalse([shifts for shifts in within if waits(shifts) < many])
                    waiting += many > late
        self.assertGreater(waiting, 15)

    def test_by_chance(self):
        walked = 0
        for room in drawn_rooms(150, 113) + knit_rooms(150, 114):
            for late in (0, 1, 3, 6):
                least = least_time(room, late)[0]
                if least > 0:
                    self.assertIsNone(self.many(room, late, least - 1))
                bells = [self.many(room, late, time) for time in (least, least + 1, least + 9, ENOUGH)]
                self.assertEqual(bells, sorted(bells, reverse=True))
                walked += bells[0] > (late if doors_out(room) else 0)
                if not doors_in(room):
                    self.assertEqual(bells[0], late if doors_out(room) else 0)
        self.assertGreater(walked, 40)

    def test_the_moved_room_goes_on(self):
        for seed, room in enumerate([LADDER, ECHO, DEAD_END] + knit_rooms(40, 115)):
            for late in (0, 2):
                time = least_time(room, late)[0]
                many, shifts, walk = soonest(room, late, time)
                rows = drawn_rows(room, many + 6, seed)
                first = run(room, rows)
                for bell, out in enumerate(run(moved(room, late, shifts, rows[:many]), rows[many:])):
                    if doors_out(room):
                        self.assertEqual(out, first[bell + many - late])

    def test_asked_again(self):
        for room in [LADDER, DEAD_END] + knit_rooms(10, 116):
            first = [soonest(room, 2, time) for time in (7, 30, 90)]
            soonest(ECHO, 1, 3)
            self.assertEqual([soonest(room, 2, time) for time in (7, 30, 90)], first)


def small_rooms_knit(many, seed):
    """Knit rooms with at most three hands that are no doors."""
    rooms = knit_rooms(many, seed, most=5)
    return [room for room in rooms if len([1 for rule, spent in room[0] if rule not in (("in",), ("out",))]) <= 3]


class WalkHolds(unittest.TestCase):
    def told(self, answer, room, late, time, many, walk):
        kept = copy.deepcopy(room)
        for turn in range(2):
            self.assertIs(walk_holds(room, late, time, many, walk), answer, (late, time, many, walk))
        self.assertEqual(room, kept)

    def told_by_one(self, room, late, time, many, walk):
        """That a walk is one of a number, and of none beside it."""
        self.told(True, room, late, time, many, walk)
        self.told(False, room, late, time, many + 1, walk)
        self.told(False, room, late, time, many + 2, walk)
        if many > 1:
            self.told(False, room, late, time, many - 1, walk)

    def test_no_pairs(self):
        for room in [EMPTY, TWO, DEAD_END]:
            self.told(False, room, 0, 4, 1, ())
            self.told(False, room, 0, 400, 1, ())

    def test_not_closed(self):
        self.told_by_one(DEAD_END, 0, 4, 2, ((0, (0, 1)), (2, (2,))))
        self.told_by_one(DEAD_END, 0, 4, 1, ((0, (0, 1)),))
        self.told_by_one(DEAD_END, 0, 4, 1, ((0, (0,)), (1, (1, 2))))
        self.told_by_one(DEAD_END, 6, 8, 1, ((0, (0, 1, 2)),))
        self.told(False, DEAD_END, 6, 9, 1, ((0, (0, 1, 2)),))
        self.told_by_one(DEAD_END, 0, 1, 3, ((0, (0,)), (1, (1,)), (2, (2,))))

    def test_trays_count(self):
        ways = ((0, (0,)), (1, ()), (1, (1,)))
        self.told_by_one(TWO, 0, 4, 2, ways)
        self.told(False, TWO, 0, 4, 3, ways)
        ring = ((IN, hand("sum", moments=5)), ((0, 1, ()), (1, 1, (3, 4))))
        self.told_by_one(ring, 0, 4, 1, ((0, (0,)),))
        self.told(False, ring, 0, 4, 1, ((0, (0,)), (1, (1,))))
        self.told_by_one(ring, 0, 4, 1, ((0, (0,)), (1, (1,)), (1, ())))
        self.told_by_one(ring, 0, 4, 2, ((0, (0,)), (1, (1,)), (1, ()), (1, ())))

    def test_no_ways(self):
        for pair in [(4, ()), (-1, ()), (-4, (0,)), (1, (0,)), (1, (2,)), (1, (3,)), (1, (-2,)), (1, (1, 1)), (1, (1, -1))]:
            for many in (1, 2, 3):
                self.told(False, DEAD_END, 0, 0, many, (pair,))
                self.told(False, DEAD_END, 0, 0, many, ((0, (0,)), pair))
                self.told(False, DEAD_END, 0, 0, many, (pair, (0, (0,))))
        for pair in [(0, (1,)), (0, (-3,)), (0, (0, 0)), (0, (0, 1, 2, 3)), (0, (7,))]:
            for many in (1, 2, 3):
                self.told(False, DEAD_END, 0, 0, many, (pair,))
        self.told(False, EMPTY, 0, 0, 1, ((0, ()),))

    def test_begins_at_no_in_door(self):
        self.told(False, DEAD_END, 0, 1, 1, ((1, ()),))
        self.told(False, DEAD_END, 0, 1, 2, ((1, ()), (1, (1,))))
        self.told_by_one(DEAD_END, 0, 1, 2, ((0, (0,)), (1, (1,))))
        self.told(False, CLOSED, 0, 0, 1, ((1, ()),))
        self.told(False, TWO, 0, 0, 1, ((3, ()), (0, (0,))))

    def test_one_does_not_begin_where_the_one_ahead_ends(self):
        self.told(False, DEAD_END, 0, 1, 2, ((0, (0,)), (2, (2,))))
        self.told(False, DEAD_END, 0, 1, 2, ((0, (0,)), (0, (0,))))
        self.told(False, TWO, 0, 4, 2, ((0, (0,)), (5, ())))
        self.told(False, TWO, 0, 4, 2, ((0, (0,)), (4, (3,))))

    def test_jumps(self):
        walk = ((0, (0,)), (1, ()), (1, (1, 2)), (4, (3,)), (5, ()))
        for late in range(4):
            self.told_by_one(TWO, late, 4, 4 - late, walk)
        for many in (1, 2):
            self.told(False, TWO, 4, 4, many, walk)
        twice = walk[:1] + walk[:1] + ((1, ()),)
        self.told(False, TWO, 0, 4, 3, twice)
        both = ((4, (3, 4)), (4, (3, 4)), (4, (3,)), (5, ()), (5, ()))
        self.told_by_one(TWO, 0, 4, 5, both)
        self.told_by_one(TWO, 1, 4, 3, both)
        self.told_by_one(TWO, 2, 4, 1, both)

    def test_no_jump_behind_the_last(self):
        for late in range(7):
            self.told_by_one(TWO, late, 6, 1, ((4, (3, 4)),))
            self.told_by_one(TWO, late, 4, 2, ((4, (3,)), (5, (4,))))

    def test_where_it_is_let_by_no_shifts_wait_for_fewer(self):
        draw = random.Random(117)
        seen = 0
        for room in [room for room in drawn_rooms(500, 118) if doors_in(room) and len(room[0]) <= 5]:
            for late in (0, 1):
                for walk in walks(room, draw):
                    many = max([many for many in range(1, 5) if walk_holds(room, late, 2, many, walk)], default=0)
                    if many:
                        seen += 1
                        reaching = [some for some in shifts_within(room, late, 2) if reaches(room, late, 2, some)]
                        self.assertFalse([some for some in reaching if waits(some) < many])
        self.assertGreater(seen, 50)

    def test_by_chance(self):
        draw = random.Random(119)
        answers = []
        for room in [room for room in drawn_rooms(300, 120) + knit_rooms(60, 121) if doors_in(room)]:
            for walk in walks(room, draw):
                for late in (0, 1, 2):
                    for many in (1, 2):
                        answers.append(by_the_words(room, late, 2, many, walk))
                        self.told(answers[-1], room, late, 2, many, walk)
        self.assertGreater(answers.count(True), 100)
        self.assertGreater(answers.count(False), 100)


def by_the_words(room, late, time, many, walk):
    trays, heavy, ahead = 0, 0, None
    if room[0][walk[0][0]][0] != ("in",):
        return False
    for way in walk:
        if ahead is not None and not joins(room, ahead, way[0]):
            return False
        trays += late if ahead is not None and ahead != way[0] else 0
        trays += counted(room, way)[0]
        heavy += counted(room, way)[1] > time
        ahead = room[1][way[1][-1]][1] if way[1] else way[0]
    return heavy - trays == many
