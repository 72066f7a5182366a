import copy
import unittest

from beltshift.fewest import fewest_trays
from beltshift.formulatexts import read_formulas
from beltshift.least import least_time, shifts_or_bar
from beltshift.lookers import shifts_hold
from beltshift.maker import made_room
from beltshift.moving import moved
from beltshift.prices import prices_hold
from beltshift.shifts import trays_moved, waits
from tests.samples import (
    CLOSED, COUNTER, ECHO, EMPTY, IN, OUT, are_plain_ways, drawn_rooms, drawn_rows, hand, knit_rooms,
)
from tests.test_least import LADDER, small_rooms
from tests.test_lookers import LINE, reaches, shifts_within
from tests.test_prices import FORK, by_the_words, trays_left
from tests.test_soonest import small_rooms_knit


class FewestTrays(unittest.TestCase):
    def count(self, room, late, time):
        """The count that is told, with its papers looked at; None where nothing is."""
        kept = copy.deepcopy(room)
        told = fewest_trays(room, late, time)
        self.assertEqual(room, kept)
        self.assertEqual(told is None, shifts_or_bar(room, late, time)[0] == "bar")
        if told is None:
            return None
        self.assertIs(type(told), tuple)
        count, shifts, prices = told
        self.assertIs(type(count), int)
        self.assertIs(type(shifts), tuple)
        self.assertEqual([type(shift) for shift in shifts], [int] * len(room[0]))
        self.assertIs(shifts_hold(room, late, time, shifts), True)
        self.assertTrue(reaches(room, late, time, shifts))
        self.assertEqual(sum(trays_moved(room, shifts)), count)
        self.is_prices(prices)
        self.assertIs(prices_hold(room, late, time, count, prices), True, (room, late, time, told))
        self.assertEqual(by_the_words(room, late, time, prices), count)
        return count

    def is_prices(self, prices):
        self.assertIs(type(prices), tuple)
        for pair in prices:
            self.assertIs(type(pair), tuple)
            way, many = pair
            self.assertTrue(are_plain_ways((way,)))
            self.assertGreater(len(way[1]), 0)
            self.assertIs(type(many), int)
            self.assertGreaterEqual(many, 1)

    def test_fork(self):
        # A tray moved over hand 1 is one more, moved over hand 2 it is one less.
        for late, counts in [(0, [None, None, 7, 6, 6]), (1, [None, None, 8, 7, 7]), (3, [None, None, 10, 9, 9])]:
            self.assertEqual([self.count(FORK, late, time) for time in (0, 3, 4, 7, 400)], counts)

    def test_trays_that_meet(self):
        hands = (IN, IN, hand("sum", moments=5), OUT)
        room = (hands, ((0, 2, (1, 2)), (1, 2, (3, 4)), (2, 3, ())))
        self.assertEqual(self.count(room, 0, 5), 2)
        self.assertEqual(fewest_trays(room, 0, 5)[1], (0, 0, -2, 0))
        split = ((IN, hand("same", moments=5), OUT, OUT, OUT), ((0, 1, ()), (1, 2, (1, 1)), (1, 3, (2, 2)), (1, 4, (3, 3, 3))))
        self.assertEqual(self.count(split, 0, 5), 3)
        self.assertEqual(self.count(split, 4, 5), 7)

    def test_written_out(self):
        for late in range(7):
            self.assertEqual(self.count(COUNTER, late, 2), 1 + late)
            self.assertEqual(self.count(CLOSED, late, 4), None)
            self.assertEqual(self.count(CLOSED, late, 5), 1)
            self.assertEqual(self.count(LINE, late, 4), 3 + late)
            self.assertEqual(self.count(LINE, late, 3), None)

    def test_rooms_that_lack_something(self):
        lone = ((hand("always", 1, moments=3), hand("always", 2, moments=5)), ())
        ins = ((IN, hand("same", moments=2), hand("same", moments=3), IN), ((0, 1, (1,)), (1, 2, (2, 3))))
        outs = ((hand("always", 1, moments=2), hand("same", moments=3), OUT, OUT), ((0, 1, ()), (1, 2, ()), (0, 3, ())))
        for late in range(7):
            self.assertEqual(fewest_trays(EMPTY, late, 0), (0, (), ()))
            self.assertEqual(fewest_trays(lone, late, 5), (0, (0, 0), ()))
            self.assertIsNone(fewest_trays(lone, late, 4))
            self.assertEqual(self.count(ins, late, 5), 0)
            self.assertEqual(self.count(ins, late, 3), 1)
            self.assertEqual(self.count(outs, late, 5), 0)
            self.assertEqual(self.count(outs, late, 3), 2)
            self.assertEqual(self.count(((IN, IN, OUT), ((1, 2, ()),)), late, 0), late)
            self.assertEqual(self.count(((IN, OUT, OUT), ((0, 1, (4,)), (0, 2, ()))), late, 0), 1 + 2 * late)
            self.assertEqual(self.count(((hand("same", moments=2),), ((0, 0, (4, 5)),)), late, 2), 2)

    def test_against_all_shifts_within_bounds(self):
        met = 0
        for room in small_rooms(80, 141) + small_rooms_knit(80, 142):
            for late in (0, 1):
                least = least_time(room, late)[0]
                for time in (least, least + 2, least + 7):
                    count = self.count(room, late, time)
                    within = [some for some in shifts_within(room, late, 3) if reaches(room, late, time, some)]
                    fewest = min([trays_left(room, some) for some in within], default=None)
                    if fewest is not None:
                        self.assertLessEqual(count, fewest)
                        met += count == fewest
        self.assertGreater(met, 200)

    def test_by_chance(self):
        for room in drawn_rooms(150, 143) + knit_rooms(150, 144):
            for late in (0, 1, 3, 6):
                least = least_time(room, late)[0]
                if least > 0:
                    self.assertIsNone(self.count(room, late, least - 1))
                counts = [self.count(room, late, time) for time in (least, least + 1, least + 4, least + 15, 400)]
                self.assertEqual(counts, sorted(counts, reverse=True))

    def test_the_moved_room(self):
        for seed, room in enumerate([LADDER, ECHO] + knit_rooms(40, 145)):
            time = least_time(room, 1)[0]
            count, shifts, prices = fewest_trays(room, 1, time)
            after = moved(room, 1, shifts, drawn_rows(room, waits(shifts), seed))
            self.assertEqual(sum(len(things) for giver, taker, things in after[1]), count)
            self.assertEqual(self.count(after, 0, time), count)

    def test_a_made_room(self):
        formulas = read_formulas(
            "in a b\nwas y : 3 4\nx = a + b - ( a - 2 * b )\ny = most ( x , y @ 2 ) - y @ 1\nz = if x < y then z @ 1 else 4"
            "\nout y x z"
        )
        room = made_room(formulas, (1, 2, 3, 4, 5, 6, 7, 8, 9))
        for late in (0, 2):
            counts = [self.count(room, late, least_time(room, late)[0] + more) for more in (0, 3, 40)]
            self.assertEqual(counts, sorted(counts, reverse=True))

    def test_papers_keep_to_the_bounds(self):
        for room in [LADDER] + drawn_rooms(60, 146) + knit_rooms(100, 147):
            for late in (0, 2, 6):
                count, shifts, prices = fewest_trays(room, late, least_time(room, late)[0])
                self.assertTrue(all(-20 <= shift <= 20 for shift in shifts))
                self.assertLessEqual(len(prices), 40)
                self.assertLessEqual(sum(len(way[1]) for way, many in prices), 300)
                self.assertTrue(all(many <= 1000 for way, many in prices))

    def test_asked_again(self):
        for room in [LADDER, FORK] + knit_rooms(10, 148):
            first = [fewest_trays(room, 2, time) for time in (7, 30, 90)]
            fewest_trays(ECHO, 1, 3)
            self.assertEqual([fewest_trays(room, 2, time) for time in (7, 30, 90)], first)
