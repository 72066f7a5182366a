import copy
import unittest

from beltshift.formulatexts import read_formulas
from beltshift.maker import made_room
from beltshift.ways import least_between, long_way, moments_on, time_of, trays_on, way_between, way_end
from tests.samples import CLOSED, COUNTER, ECHO, EMPTY, IN, OUT, drawn_rooms, hand

# From hand 0 to hand 4: by belt 2 without trays; round by hands 2 and 3 without trays, too, with more moments; and
# over belt 6 with trays and the most moments of all.
FORK = (
    (
        hand("always", 1, moments=1), hand("same", moments=2), hand("same", moments=3), hand("same", moments=4),
        hand("pick", moments=5), hand("same", moments=30),
    ),
    ((0, 1, ()), (1, 4, ()), (0, 4, ()), (0, 2, ()), (2, 3, ()), (3, 4, ()), (0, 5, (7,))),
)


def simple_ways(room, begin):
    """All ways from a hand that come to no hand twice, with their ends."""
    told = [((begin, ()), begin)]
    left = [((), begin, {begin})]
    while left:
        numbers, end, seen = left.pop()
        for number, (giver, taker, things) in enumerate(room[1]):
            if giver == end and taker not in seen:
                told.append(((begin, numbers + (number,)), taker))
                left.append((numbers + (number,), taker, seen | {taker}))
    return told


def counted(room, way):
    """The trays and moments of a way, counted belt by belt."""
    hands, belts = room
    trays, moments = 0, hands[way[0]][1]
    for number in way[1]:
        trays += len(belts[number][2])
        moments += hands[belts[number][1]][1]
    return trays, moments


class Ways(unittest.TestCase):
    def is_way(self, room, way):
        self.assertIs(type(way), tuple)
        begin, numbers = way
        self.assertIs(type(begin), int)
        self.assertIs(type(numbers), tuple)
        for number in numbers:
            self.assertEqual(room[1][number][0], begin)
            begin = room[1][number][1]
        return begin


class OnWays(Ways):
    def test_trays_and_moments(self):
        for way, trays, moments in [
            ((0, ()), 0, 0), ((1, ()), 0, 1), ((2, ()), 0, 3), ((0, (0,)), 0, 1), ((0, (1,)), 3, 1),
            ((1, (2,)), 0, 4), ((1, (3,)), 2, 4), ((0, (1, 3, 4)), 6, 4), ((0, (0, 2, 4)), 1, 4),
        ]:
            self.assertEqual((trays_on(ECHO, way), moments_on(ECHO, way)), (trays, moments), way)

    def test_a_hand_more_than_once(self):
        self.assertEqual((trays_on(COUNTER, (0, (0, 1, 1, 1, 2))), moments_on(COUNTER, (0, (0, 1, 1, 1, 2)))), (3, 8))
        self.assertEqual((trays_on(COUNTER, (1, (1,))), moments_on(COUNTER, (1, (1,)))), (1, 4))
        way = (0, (1, 0, 1, 0, 1))
        self.assertEqual((trays_on(CLOSED, way), moments_on(CLOSED, way)), (2, 1 + 4 + 1 + 4 + 1 + 4))

    def test_end(self):
        for way, end in [((0, ()), 0), ((3, ()), 3), ((0, (1,)), 1), ((0, (1, 3)), 2), ((0, (0, 2, 4)), 3)]:
            self.assertEqual(way_end(ECHO, way), end)
        self.assertEqual(way_end(COUNTER, (0, (0, 1, 1, 2))), 2)
        self.assertEqual(way_end(COUNTER, (1, (1, 1, 1))), 1)

    def test_no_ways(self):
        for pair in [
            (4, ()), (-1, ()), (400, (0,)), (-4, (0,)), (1, (0,)), (0, (2,)), (0, (0, 0)), (0, (0, 4)), (0, (5,)),
            (0, (-5,)), (0, (-1,)), (0, (0, 5)), (0, (0, -3)), (0, (0, 2, 400)), (2, (4, 4)), (3, (0,)), (0, (0, 2, 4, 0)),
            (-4, ()), (3, (-1,)),
        ]:
            self.assertIsNone(way_end(ECHO, pair), pair)
        for pair in [(0, ()), (-1, ()), (0, (0,))]:
            self.assertIsNone(way_end(EMPTY, pair))

    def test_handed_in_stays(self):
        room, way = copy.deepcopy(ECHO), (0, (0, 2, 4))
        for ask in (trays_on, moments_on, way_end):
            self.assertEqual(ask(room, way), ask(room, way))
        self.assertEqual((room, way), (ECHO, (0, (0, 2, 4))))


class Time(Ways):
    def told(self, room, time):
        kept = copy.deepcopy(room)
        for turn in range(2):
            self.assertEqual(time_of(room), time)
            self.assertIs(type(time_of(room)), int)
            way = long_way(room)
            self.is_way(room, way)
            self.assertEqual(counted(room, way), (0, time))
        self.assertEqual(room, kept)

    def test_no_hands(self):
        self.assertEqual(time_of(EMPTY), 0)
        self.assertIs(type(time_of(EMPTY)), int)
        self.assertIsNone(long_way(EMPTY))

    def test_no_belts(self):
        self.told(((IN,), ()), 0)
        self.told(((hand("always", 1, moments=3), hand("always", 2, moments=7), IN), ()), 7)

    def test_written_out(self):
        self.told(COUNTER, 2)
        self.told(ECHO, 4)
        self.told(CLOSED, 5)
        self.told(FORK, 30)

    def test_side_by_side(self):
        hands = [IN] + [hand("same", moments=m) for m in (3, 4, 5, 1)] + [OUT, OUT]
        belts = ((0, 1, ()), (1, 2, ()), (0, 3, ()), (3, 4, ()), (2, 5, ()), (4, 6, ()))
        self.told((tuple(hands), belts), 7)
        self.told((tuple(hands), belts[:2] + ((0, 3, (1,)), (3, 4, ()), (2, 5, ()), (4, 6, ()))), 7)
        self.told((tuple(hands), (belts[0], (1, 2, (9,))) + belts[2:]), 6)
        self.told((tuple(hands), (belts[0], (1, 2, (9,)), belts[2], (3, 4, (8, 8))) + belts[4:]), 5)

    def test_numbers_of_hands_against_the_order(self):
        hands = [OUT] + [hand("same", moments=m) for m in (1, 2, 3)] + [IN]
        self.told((tuple(hands), ((1, 0, ()), (2, 1, ()), (3, 2, ()), (4, 3, ()))), 6)

    def test_hands_without_moments(self):
        hands = (IN, hand("same", moments=0), hand("same", moments=0), OUT)
        self.told((hands, ((0, 1, ()), (1, 2, ()), (2, 3, ()))), 0)
        hands = (IN, hand("same", moments=0), hand("same", moments=2), OUT)
        self.told((hands, ((0, 1, ()), (1, 2, ()), (2, 3, ()))), 2)

    def test_several_belts_between_two_hands(self):
        hands = (hand("always", 1, moments=2), hand("sum", moments=3))
        self.told((hands, ((0, 1, (5,)), (0, 1, ()))), 5)
        self.told((hands, ((0, 1, (5,)), (0, 1, (6,)))), 3)

    def test_by_chance(self):
        for room in drawn_rooms(250, 41):
            sums = []
            for begin in range(len(room[0])):
                found = [counted(room, way) for way, end in simple_ways(room, begin)]
                sums += [moments for trays, moments in found if trays == 0]
            if room[0]:
                self.told(room, max(sums))

    def test_a_made_room(self):
        formulas = read_formulas("in a b\nx = a + b - ( a - 2 * b )\ny = most ( x , y @ 1 )\nout y x")
        self.told(made_room(formulas, (1, 2, 3, 4, 5, 6, 7, 8, 9)), 8 + 3 + 3 + 5)


class Between(Ways):
    def told(self, room, one, other, trays, moments):
        kept = copy.deepcopy(room)
        for turn in range(2):
            self.assertEqual(least_between(room, one, other), (trays, moments))
            way = way_between(room, one, other)
            self.assertEqual((way[0], self.is_way(room, way)), (one, other))
            self.assertEqual(counted(room, way), (trays, moments))
        self.assertEqual(room, kept)

    def none(self, room, one, other):
        self.assertIsNone(least_between(room, one, other))
        self.assertIsNone(way_between(room, one, other))

    def test_written_out(self):
        self.told(ECHO, 0, 3, 1, 4)
        self.told(ECHO, 0, 1, 0, 1)
        self.told(ECHO, 1, 3, 1, 4)
        self.told(CLOSED, 0, 1, 0, 5)
        self.told(CLOSED, 1, 0, 1, 5)

    def test_itself(self):
        self.told(COUNTER, 1, 1, 0, 2)
        self.told(COUNTER, 0, 0, 0, 0)
        self.told(CLOSED, 1, 1, 0, 4)
        for room in drawn_rooms(20, 42):
            for number, (rule, moments) in enumerate(room[0]):
                self.told(room, number, number, 0, moments)

    def test_no_way(self):
        self.none(ECHO, 3, 0)
        self.none(ECHO, 1, 0)
        self.none(CLOSED, 2, 0)
        self.none(CLOSED, 0, 2)
        self.none(((IN, IN), ()), 0, 1)

    def test_fewer_trays_ahead_of_more_moments(self):
        hands = (IN, hand("same", moments=30), hand("same", moments=1), hand("sum", moments=0), OUT)
        belts = [(0, 1, (5,)), (0, 2, ()), (1, 3, ()), (2, 3, ()), (3, 4, ())]
        self.told((hands, tuple(belts)), 0, 3, 0, 1)
        belts[1] = (0, 2, (5,))
        self.told((hands, tuple(belts)), 0, 3, 1, 30)
        belts[0] = (0, 1, (5, 6))
        self.told((hands, tuple(belts)), 0, 3, 1, 1)
        belts[3] = (2, 3, (7, 8))
        self.told((hands, tuple(belts)), 0, 4, 2, 30)

    def test_the_greatest_moments_by_more_belts(self):
        self.told(FORK, 0, 4, 0, 13)
        self.assertEqual(way_between(FORK, 0, 4), (0, (3, 4, 5)))
        self.told(FORK, 0, 5, 1, 31)
        hands, belts = FORK
        self.told((hands[:1] + (hand("same", moments=9),) + hands[2:], belts), 0, 4, 0, 15)

    def test_by_chance(self):
        for room in drawn_rooms(150, 43):
            hands = range(len(room[0]))
            for one in hands:
                found = {}
                for way, end in simple_ways(room, one):
                    trays, moments = counted(room, way)
                    found.setdefault(end, []).append((trays, -moments))
                for other in hands:
                    if other in found:
                        trays, less = min(found[other])
                        self.told(room, one, other, trays, -less)
                    else:
                        self.none(room, one, other)
