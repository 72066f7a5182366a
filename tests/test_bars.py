import copy
import itertools
import random
import unittest

from beltshift.bars import bar_holds
from tests.samples import CLOSED, COUNTER, ECHO, EMPTY, IN, OUT, drawn_rooms, hand
from tests.test_lookers import reaches, shifts_within
from tests.test_ways import counted, simple_ways

# In doors 0 and 4, out doors 3 and 6; hands of moments 5, 6 and 7.
TWO = (
    (IN, hand("same", moments=5), hand("same", moments=6), OUT, IN, hand("same", moments=7), OUT),
    ((0, 1, ()), (1, 2, (1,)), (2, 3, ()), (4, 5, ()), (5, 6, ())),
)


class BarHolds(unittest.TestCase):
    def told(self, answer, room, late, time, bar):
        kept = copy.deepcopy(room)
        for turn in range(2):
            self.assertIs(bar_holds(room, late, time, bar), answer, (late, time, bar))
        self.assertEqual(room, kept)

    def test_no_pairs(self):
        for room in [EMPTY, COUNTER, TWO]:
            for late in (None, 0, 3):
                for time in (0, 400):
                    self.told(False, room, late, time, ())

    def test_one_hand(self):
        for late in (None, 0, 6):
            for time, answer in [(0, True), (4, True), (5, False), (400, False)]:
                self.told(answer, TWO, late, time, ((1, ()),))
            self.told(False, TWO, late, 0, ((0, ()),))
            self.told(False, TWO, late, 0, ((3, ()),))
            self.told(True, TWO, late, 4, ((1, ()), (1, ())))
            self.told(True, CLOSED, late, 3, ((1, ()),))
            self.told(False, CLOSED, late, 4, ((1, ()),))

    def test_as_many_heavy_as_trays(self):
        room = ((hand("same", moments=3), hand("same", moments=4)), ((0, 1, (1,)), (1, 0, (2,))))
        self.told(False, room, None, 6, ((0, (0,)), (1, (1,))))
        self.told(False, room, None, 3, ((0, (0,)), (1, (1,))))
        self.told(True, room, None, 3, ((0, (0,)), (1, ()), (1, (1,))))
        self.told(False, room, None, 4, ((0, (0,)), (1, ()), (1, (1,))))
        less = (room[0], ((0, 1, (1,)), (1, 0, ())))
        self.told(True, less, None, 6, ((0, (0,)), (1, (1,))))
        self.told(False, less, None, 7, ((0, (0,)), (1, (1,))))
        self.told(False, less, None, 6, ((0, (0, 1)),))
        self.told(False, less, None, 10, ((1, (1, 0, 1, 0)), (1, ())))

    def test_a_ring_of_several(self):
        room = ((hand("same", moments=2),) * 3, ((0, 1, ()), (1, 2, (5,)), (2, 0, ())))
        self.told(True, room, None, 3, ((0, (0,)), (1, (1,)), (2, (2,))))
        self.told(True, room, 4, 3, ((1, (1,)), (2, (2,)), (0, (0,))))
        self.told(True, room, 4, 3, ((1, (1, 2)), (0, (0,))))
        self.told(False, room, None, 5, ((1, (1, 2)), (0, (0,))))
        self.told(False, room, None, 3, ((1, (1, 2, 0)),))

    def test_no_ways(self):
        self.told(True, TWO, 0, 4, ((1, ()), (1, ())))
        for pair in [
            (7, ()), (-1, ()), (-6, ()), (1, (0,)), (1, (2,)), (1, (5,)), (1, (-4,)), (1, (1, 1)), (1, (1, -3)), (1, (1, 2, 0)),
        ]:
            for late in (None, 0, 3):
                self.told(False, TWO, late, 0, (pair,))
                self.told(False, TWO, late, 0, ((1, ()), pair))
                self.told(False, TWO, late, 0, (pair, (1, ())))
        self.told(False, EMPTY, None, 0, ((0, ()),))

    def test_one_does_not_begin_where_the_one_ahead_ends(self):
        for late in (None, 0, 3):
            self.told(False, TWO, late, 0, ((1, ()), (2, ())))
            self.told(False, TWO, late, 0, ((1, ()), (5, ()), (1, ())))
            self.told(False, TWO, late, 0, ((2, ()), (1, ()), (1, (1,))))
            self.told(False, TWO, late, 0, ((0, (0,)), (2, (2,))))

    def test_not_closed(self):
        for late in (None, 0, 3):
            self.told(False, TWO, late, 0, ((1, ()), (1, (1,)), (2, ())))
            self.told(False, TWO, late, 0, ((0, (0,)), (1, ()), (1, ())))
            self.told(False, TWO, late, 0, ((1, ()), (1, (1,)), (2, (2,))))
        self.told(False, COUNTER, None, 0, ((0, (0,)), (1, ())))

    def test_jumps(self):
        through = ((4, (3, 4)),)
        self.told(True, TWO, 0, 6, through)
        self.told(False, TWO, 0, 7, through)
        self.told(False, TWO, 1, 6, through)
        self.told(False, TWO, None, 6, through)
        four = ((4, (3,)), (5, ()), (5, ()), (5, (4,)))
        for late in range(7):
            self.told(late < 4, TWO, late, 6, four)
        self.told(False, TWO, None, 6, four)

    def test_jumps_to_another_in_door(self):
        both = ((0, (0, 1, 2)), (4, (3, 4)))
        self.told(True, TWO, 0, 6, both)
        self.told(False, TWO, 0, 7, both)
        self.told(False, TWO, 1, 6, both)
        self.told(False, TWO, None, 0, both)
        many = ((0, (0,)), (1, ()), (1, (1,)), (2, (2,)), (4, (3,)), (5, ()), (5, (4,)))
        for late in range(7):
            for turned in range(len(many)):
                self.told(1 + 2 * late < 7, TWO, late, 4, many[turned:] + many[:turned])
                self.told(1 + 2 * late < 5, TWO, late, 5, many[turned:] + many[:turned])
                self.told(False, TWO, None, 0, many[turned:] + many[:turned])

    def test_a_jump_in_the_midst_alone(self):
        room = ((IN, hand("sum", moments=5), OUT), ((0, 1, ()), (1, 1, (3,)), (1, 2, ())))
        walk = ((1, (2,)), (0, (0,)), (1, ()))
        for late in range(7):
            self.told(late < 3, room, late, 4, walk)
            self.told(False, room, late, 5, walk)
        self.told(False, room, None, 4, walk)

    def test_no_other_jumps(self):
        for late in (0, 1):
            self.told(False, TWO, late, 0, ((0, (0, 1)), (0, (0,)), (1, (1,))))
            self.told(False, TWO, late, 0, ((1, (1, 2)), (5, (4,)), (1, ())))
            self.told(False, TWO, late, 0, ((1, (1, 2)),))
            self.told(False, TWO, late, 0, ((0, (0, 1)),))
            self.told(False, TWO, late, 0, ((5, ()), (0, (0,)), (1, (1, 2)), (3, ()), (6, ())))
        self.told(False, TWO, 0, 0, ((0, ()), (4, (3,)), (5, (4,))))

    def test_where_a_bar_is_let_by_no_shifts_reach(self):
        draw = random.Random(82)
        barred = 0
        for room in [room for room in drawn_rooms(400, 81) if 0 < len(room[0]) <= 5]:
            for late in (None, 0, 1):
                time = draw.randrange(0, 6)
                bars = [bar for bar in walks(room, draw) if bar_holds(room, late, time, bar)]
                if bars:
                    barred += 1
                    self.assertFalse(any(reaches(room, late, time, some) for some in shifts_within(room, late, 2)))
        self.assertGreater(barred, 100)

    def test_by_chance(self):
        draw = random.Random(83)
        answers = []
        for room in [room for room in drawn_rooms(200, 84) if room[0]]:
            for walk in walks(room, draw):
                for late in (None, 0, 1):
                    answers.append(by_the_words(room, late, 2, walk))
                    self.told(answers[-1], room, late, 2, walk)
        self.assertGreater(answers.count(True), 100)
        self.assertGreater(answers.count(False), 100)


def walks(room, draw):
    """Some walks of up to four ways, most of them with a good beginning; closed or not."""
    ways = list(itertools.chain(*[simple_ways(room, begin) for begin in range(len(room[0]))]))
    for turn in range(30):
        walk = [draw.choice(ways)]
        for step in range(draw.randrange(0, 4)):
            fitting = [way for way in ways if joins(room, walk[-1][1], way[0][0])]
            walk.append(draw.choice(fitting or ways))
        yield tuple(way for way, end in walk)


def joins(room, end, begin):
    return end == begin or (room[0][end][0], room[0][begin][0]) == (("out",), ("in",))


def by_the_words(room, late, time, walk):
    trays, heavy = 0, 0
    for place, way in enumerate(walk):
        begin, numbers = walk[(place + 1) % len(walk)]
        end = room[1][way[1][-1]][1] if way[1] else way[0]
        if not joins(room, end, begin) or (end != begin and late is None):
            return False
        trays += counted(room, way)[0] + (late if end != begin else 0)
        heavy += counted(room, way)[1] > time
    return heavy > trays
