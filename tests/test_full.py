import copy
import random
import unittest

from beltshift.full import full_shifts, least_slowing, ring_holds
from beltshift.rooms import doors_out
from beltshift.moving import moved
from beltshift.shifts import look_shifts, trays_moved, waits
from beltshift.slowed import slowed
from beltshift.ways import time_of
from tests.samples import (
    CLOSED, COUNTER, ECHO, EMPTY, IN, OUT, are_plain_ways, drawn_rooms, drawn_rows, hand, knit_rooms,
)
from tests.test_bars import TWO, joins, walks
from tests.test_least import LATES, small_rooms
from tests.test_lookers import shifts_within
from tests.test_soonest import small_rooms_knit
from tests.test_ways import counted

# A ring of four belts with one tray, and one of a hand by itself.
ROUND = (
    (hand("same"), hand("same"), hand("same"), hand("sum")),
    ((0, 1, ()), (1, 2, ()), (2, 3, (5,)), (3, 0, ()), (3, 3, (6,))),
)


def fills(room, late, shifts):
    """Whether shifts fill a room, as the document's words have it."""
    outs = {shifts[door] for door in doors_out(room)}
    if late is None and outs and (len(outs) > 1 or min(outs) < 0):
        return False
    if late is not None and outs - {late}:
        return False
    if any(shift for (rule, spent), shift in zip(room[0], shifts) if rule == ("in",)):
        return False
    return all(len(things) + shifts[taker] - shifts[giver] >= 1 for giver, taker, things in room[1])


class FullShifts(unittest.TestCase):
    def word(self, room, late):
        kept = copy.deepcopy(room)
        told = full_shifts(room, late)
        self.assertEqual(room, kept)
        self.assertIs(type(told), tuple)
        word, paper = told
        self.assertIn(word, ("shifts", "ring"))
        if word == "shifts":
            self.is_shifts(room, late, paper)
        else:
            self.assertTrue(are_plain_ways(paper))
            self.assertIs(ring_holds(room, late, paper), True, (room, late, paper))
        return word

    def is_shifts(self, room, late, shifts):
        self.assertIs(type(shifts), tuple)
        self.assertEqual([type(shift) for shift in shifts], [int] * len(room[0]))
        outs = doors_out(room)
        own = (shifts[outs[0]] if outs else 0) if late is None else late
        self.assertGreaterEqual(own, 0)
        self.assertIs(look_shifts(room, own, shifts), True)
        self.assertTrue(all(trays >= 1 for trays in trays_moved(room, shifts)))
        self.assertTrue(fills(room, late, shifts))

    def test_by_the_lateness(self):
        line = ((IN, hand("same"), hand("same"), OUT), ((0, 1, ()), (1, 2, ()), (2, 3, (4,))))
        for late in range(7):
            self.assertEqual(self.word(line, late), "shifts" if late >= 2 else "ring")
        self.assertEqual(self.word(line, None), "shifts")

    def test_two_lines(self):
        for late in range(7):
            self.assertEqual(self.word(TWO, late), "shifts" if late >= 2 else "ring")
        self.assertEqual(self.word(TWO, None), "shifts")

    def test_rings(self):
        for late in LATES:
            self.assertEqual(self.word(ROUND, late), "ring")
            self.assertEqual(self.word(slowed(ROUND, 3), late), "ring")
            self.assertEqual(self.word(slowed(ROUND, 4), late), "shifts")
            self.assertEqual(self.word(CLOSED, late), "ring")
            self.assertEqual(self.word(slowed(CLOSED, 2), late), "shifts")

    def test_a_ring_of_one_belt(self):
        for late in LATES:
            self.assertEqual(full_shifts(((hand("same"),), ((0, 0, (4,)),)), late)[0], "shifts")
            self.assertEqual(self.word(((hand("same"),), ((0, 0, (4, 5)),)), late), "shifts")
            self.assertEqual(self.word(COUNTER, late), "shifts" if late is None or late >= 2 else "ring")

    def test_rooms_that_lack_something(self):
        for late in LATES:
            self.assertEqual(full_shifts(EMPTY, late), ("shifts", ()))
            self.assertEqual(self.word(((hand("always", 1), hand("always", 2)), ()), late), "shifts")
            self.assertEqual(self.word(((IN, IN), ()), late), "shifts")
            self.assertEqual(self.word(((IN, hand("same")), ((0, 1, ()),)), late), "shifts")
            self.assertEqual(self.word(((hand("always", 1), OUT), ((0, 1, ()),)), late), "shifts")
            self.assertEqual(self.word(((IN, OUT), ((0, 1, ()),)), late), "ring" if late == 0 else "shifts")
            self.assertEqual(self.word(((IN, OUT), ((0, 1, (1,)),)), late), "shifts")

    def test_against_all_shifts_within_bounds(self):
        words = []
        for room in small_rooms(80, 161) + small_rooms_knit(80, 162):
            for late in (None, 0, 1, 2):
                some = any(fills(room, late, shifts) for shifts in shifts_within(room, late, 3))
                words.append(self.word(room, late))
                if some:
                    self.assertEqual(words[-1], "shifts")
                if words[-1] == "ring":
                    self.assertFalse(some)
        self.assertGreater(words.count("shifts"), 100)
        self.assertGreater(words.count("ring"), 40)

    def test_by_chance(self):
        words = []
        for room in drawn_rooms(150, 163) + knit_rooms(150, 164):
            for late in LATES:
                words.append(self.word(room, late))
                words.append(self.word(slowed(room, 3), late))
        self.assertGreater(words.count("shifts"), 300)
        self.assertGreater(words.count("ring"), 300)

    def test_the_time_of_a_full_room(self):
        full = 0
        for seed, room in enumerate(knit_rooms(100, 165)):
            word, shifts = full_shifts(room, 6)
            if word == "shifts":
                full += 1
                after = moved(room, 6, shifts, drawn_rows(room, waits(shifts), seed))
                self.assertEqual(time_of(after), max(moments for rule, moments in room[0]))
        self.assertGreater(full, 5)

    def test_asked_again(self):
        for room in [ROUND, TWO] + knit_rooms(10, 166):
            first = [full_shifts(room, late) for late in LATES]
            full_shifts(ECHO, 2)
            self.assertEqual([full_shifts(room, late) for late in LATES], first)


class RingHolds(unittest.TestCase):
    def told(self, answer, room, late, ring):
        kept = copy.deepcopy(room)
        for turn in range(2):
            self.assertIs(ring_holds(room, late, ring), answer, (late, ring))
        self.assertEqual(room, kept)

    def test_no_pairs(self):
        for room in [EMPTY, ROUND, TWO]:
            for late in (None, 0, 3):
                self.told(False, room, late, ())

    def test_as_many_belts_as_trays(self):
        for trays, answer in [(1, True), (3, True), (4, False), (5, False)]:
            room = (ROUND[0], ((0, 1, ()), (1, 2, (1,) * (trays - 1)), (2, 3, (5,)), (3, 0, ()), (3, 3, (6,))))
            for late in (None, 0, 6):
                self.told(answer, room, late, ((0, (0, 1, 2, 3)),))
                self.told(answer, room, late, ((2, (2,)), (3, (3, 0, 1))))
                self.told(answer, room, late, ((3, (3,)), (0, ()), (0, (0,)), (1, (1, 2))))
                self.told(answer, room, late, ((3, (4,)), (3, (3,)), (0, (0, 1)), (2, ()), (2, (2,))))
        self.told(False, ROUND, None, ((3, (4,)),))
        self.told(True, ((hand("same"), hand("same")), ((0, 1, ()), (1, 0, (1,)))), None, ((0, (0, 1, 0, 1)),))

    def test_no_belts(self):
        for late in (None, 0):
            self.told(False, ROUND, late, ((0, ()),))
            self.told(False, ROUND, late, ((0, ()), (0, ())))

    def test_no_ways(self):
        good = (0, (0, 1, 2, 3))
        self.told(True, ROUND, 0, (good,))
        for pair in [(4, ()), (-1, ()), (0, (1,)), (0, (5,)), (0, (-5,)), (0, (0, 0)), (-4, (0, 1, 2, 3)), (0, (0, 1, 2, -2))]:
            for late in (None, 0, 3):
                self.told(False, ROUND, late, (pair,))
                self.told(False, ROUND, late, (good, pair))
                self.told(False, ROUND, late, (pair, good))
        self.told(False, EMPTY, 0, ((0, ()),))

    def test_not_closed(self):
        for late in (None, 0, 3):
            self.told(False, ROUND, late, ((0, (0, 1)),))
            self.told(False, ROUND, late, ((0, (0,)), (1, (1, 2))))
            self.told(False, ROUND, late, ((0, (0,)), (2, (2,)), (3, (3,))))
            self.told(False, ROUND, late, ((0, (0, 1, 2, 3)), (0, (0,))))
            self.told(False, ROUND, late, ((0, (0, 1, 2, 3)), (1, (1,))))

    def test_jumps(self):
        for late in range(7):
            self.told(late < 2, TWO, late, ((4, (3, 4)),))
            self.told(late < 2, TWO, late, ((0, (0, 1, 2)),))
            self.told(1 + 2 * late < 5, TWO, late, ((0, (0, 1, 2)), (4, (3, 4))))
            self.told(1 + 2 * late < 5, TWO, late, ((4, (3, 4)), (0, (0, 1, 2))))
            self.told(1 + 2 * late < 5, TWO, late, ((1, (1, 2)), (4, (3, 4)), (0, (0,))))
            self.told(late < 2, TWO, late, ((5, (4,)), (4, (3,))))
        for ring in [((4, (3, 4)),), ((0, (0, 1, 2)), (4, (3, 4))), ((5, (4,)), (4, (3,)))]:
            self.told(False, TWO, None, ring)

    def test_no_other_jumps(self):
        self.told(False, TWO, 0, ((5, (4,)),))
        self.told(False, TWO, 0, ((4, (3,)),))
        self.told(False, TWO, 0, ((4, (3, 4)), (1, (1, 2))))
        self.told(False, TWO, 0, ((4, (3,)), (0, (0, 1, 2))))

    def test_where_it_is_let_by_no_shifts_fill(self):
        draw = random.Random(167)
        barred = 0
        for room in [room for room in drawn_rooms(300, 168) if 0 < len(room[0]) <= 5]:
            for late in (None, 0, 1):
                if any(ring_holds(room, late, ring) for ring in walks(room, draw)):
                    barred += 1
                    self.assertFalse(any(fills(room, late, some) for some in shifts_within(room, late, 2)))
        self.assertGreater(barred, 30)

    def test_by_chance(self):
        draw = random.Random(169)
        answers = []
        for room in [room for room in drawn_rooms(200, 170) + knit_rooms(40, 171) if room[0]]:
            for walk in walks(room, draw):
                for late in (None, 0, 1):
                    answers.append(by_the_words(room, late, walk))
                    self.told(answers[-1], room, late, walk)
        self.assertGreater(answers.count(True), 100)
        self.assertGreater(answers.count(False), 100)


def by_the_words(room, late, walk):
    trays, belts = 0, 0
    for place, way in enumerate(walk):
        begin, numbers = walk[(place + 1) % len(walk)]
        end = room[1][way[1][-1]][1] if way[1] else way[0]
        if not joins(room, end, begin) or (end != begin and late is None):
            return False
        trays += counted(room, way)[0] + (late if end != begin else 0)
        belts += len(way[1])
    return belts > trays


class LeastSlowing(unittest.TestCase):
    def least(self, room):
        kept = copy.deepcopy(room)
        told = least_slowing(room)
        self.assertEqual(room, kept)
        self.assertIs(type(told), tuple)
        k, shifts, ring = told
        self.assertIs(type(k), int)
        self.assertGreaterEqual(k, 1)
        self.assertIs(type(shifts), tuple)
        self.assertEqual([type(shift) for shift in shifts], [int] * len(room[0]))
        self.assertTrue(fills(slowed(room, k), None, shifts))
        if k == 1:
            self.assertIsNone(ring)
        else:
            self.assertTrue(are_plain_ways(ring))
            self.is_ring(room, k - 1, ring)
        return k

    def is_ring(self, room, less, ring):
        """That a closed walk without jumps has more belts than so many times its trays."""
        # With a slowing the trays of a walk come so many times, and late None lets no jump by.
        self.assertIs(ring_holds(slowed(room, less), None, ring), True)
        belts = sum(len(numbers) for begin, numbers in ring)
        self.assertGreater(belts, less * sum(counted(room, way)[0] for way in ring))

    def test_rings(self):
        self.assertEqual(self.least(ROUND), 4)
        self.assertEqual(self.least(CLOSED), 2)
        self.assertEqual(self.least(((hand("same"),), ((0, 0, (4,)),))), 1)
        for belts in range(1, 13):
            for trays in range(1, 7):
                ring = tuple((number, (number + 1) % belts, (1,) * (trays if number == 0 else 0)) for number in range(belts))
                self.assertEqual(self.least(((hand("same"),) * belts, ring)), -(-belts // trays))

    def test_without_rings(self):
        for room in [
            EMPTY, ((hand("always", 1), hand("always", 2)), ()), ((IN, OUT), ((0, 1, ()),)), TWO, COUNTER,
            ((IN, hand("sum"), OUT), ((0, 1, ()), (0, 1, (1, 2)), (1, 2, ()))),
        ]:
            self.assertEqual(self.least(room), 1)
        self.assertEqual(least_slowing(EMPTY), (1, (), None))

    def test_by_chance(self):
        found = []
        for room in drawn_rooms(200, 172) + knit_rooms(200, 173):
            k = self.least(room)
            found.append(k)
            if k > 1:
                self.assertEqual(full_shifts(slowed(room, k - 1), None)[0], "ring")
            self.assertEqual(self.least(slowed(room, k)), 1)
        self.assertGreater(len([k for k in found if k == 1]), 50)
        self.assertGreater(len([k for k in found if k == 2]), 20)
        self.assertGreater(len([k for k in found if k > 2]), 20)

    def test_asked_again(self):
        first = least_slowing(ROUND)
        least_slowing(ECHO)
        self.assertEqual(least_slowing(ROUND), first)
