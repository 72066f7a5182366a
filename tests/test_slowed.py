import copy
import unittest

from beltshift.rooms import look_room
from beltshift.runs import run, standing, worked
from beltshift.slowed import slowed, woven
from tests.samples import CLOSED, COUNTER, ECHO, EMPTY, drawn_rooms, drawn_rows, knit_rooms


class Slowed(unittest.TestCase):
    def test_things(self):
        room = (COUNTER[0], ((0, 1, ()), (1, 1, (3, 5)), (1, 2, (7,))))
        self.assertEqual(slowed(room, 2), (COUNTER[0], ((0, 1, ()), (1, 1, (3, 3, 5, 5)), (1, 2, (7, 7)))))
        self.assertEqual(slowed(room, 3), (COUNTER[0], ((0, 1, ()), (1, 1, (3, 3, 3, 5, 5, 5)), (1, 2, (7, 7, 7)))))
        self.assertEqual(slowed(room, 4)[1][1], (1, 1, (3, 3, 3, 3, 5, 5, 5, 5)))

    def test_by_one_the_room_itself(self):
        for room in [EMPTY, COUNTER, ECHO, CLOSED] + drawn_rooms(40, 151):
            self.assertEqual(slowed(room, 1), room)

    def test_empty(self):
        self.assertEqual(slowed(EMPTY, 4), EMPTY)

    def test_slowed_again(self):
        for room in [ECHO, CLOSED] + drawn_rooms(40, 152):
            for one in range(1, 5):
                for other in range(1, 5):
                    self.assertEqual(slowed(slowed(room, one), other), slowed(room, one * other))

    def test_let_by_and_nothing_changed(self):
        for room in drawn_rooms(40, 153):
            kept = copy.deepcopy(room)
            for k in range(1, 5):
                after = slowed(room, k)
                self.assertIs(look_room(after), True)
                self.assertEqual(after[0], room[0])
                for (giver, taker, things), belt in zip(room[1], after[1]):
                    self.assertEqual(belt[:2], (giver, taker))
                    self.assertIs(type(belt[2]), tuple)
                    self.assertEqual(len(belt[2]), k * len(things))
            self.assertEqual(room, kept)


class Woven(unittest.TestCase):
    def test_rows(self):
        one = [(1, 2), (3, 4)]
        other = ((5, 6), (7, 8))
        third = [(9, 0), (-1, -2)]
        self.assertEqual(woven([one]), one)
        self.assertEqual(woven([other]), [(5, 6), (7, 8)])
        self.assertEqual(woven([one, other]), [(1, 2), (5, 6), (3, 4), (7, 8)])
        self.assertEqual(woven([other, one, third]), [(5, 6), (1, 2), (9, 0), (7, 8), (3, 4), (-1, -2)])

    def test_without_bells(self):
        self.assertEqual(woven([[]]), [])
        self.assertEqual(woven([(), []]), [])
        self.assertEqual(woven([[(), ()], [(), ()]]), [(), (), (), ()])

    def test_the_askers_own(self):
        some = [[(1,), (2,)], [(3,), (4,)]]
        kept = copy.deepcopy(some)
        told = woven(some)
        self.assertIs(type(told), list)
        told.append((9,))
        told[0] = None
        self.assertEqual(some, kept)
        self.assertEqual(woven(some), [(1,), (3,), (2,), (4,)])
        alone = [[(1,), (2,)]]
        told = woven(alone)
        told.clear()
        self.assertEqual(alone, [[(1,), (2,)]])
        self.assertEqual(woven(alone), [(1,), (2,)])


class Together(unittest.TestCase):
    def test_a_slowed_room_is_some_rooms(self):
        for seed, room in enumerate([COUNTER, ECHO, CLOSED, EMPTY] + drawn_rooms(60, 154) + knit_rooms(30, 155)):
            for k in range(1, 5):
                some = [drawn_rows(room, 7, seed * 10 + turn) for turn in range(k)]
                slow = slowed(room, k)
                self.assertEqual(run(slow, woven(some)), woven([run(room, rows) for rows in some]))
                self.assertEqual(worked(slow, woven(some)), woven([worked(room, rows) for rows in some]))
                if k == 1:
                    self.assertEqual(standing(slow, some[0]), standing(room, some[0]))
