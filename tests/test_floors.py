import copy
import random
import unittest

from beltshift.errors import NotReady
from beltshift.floors import Floor
from beltshift.runs import worked
from tests.samples import CLOSED, COUNTER, ECHO, EMPTY, IN, OUT, drawn_rooms, drawn_rows, hand, knit_rooms, raised


class Ready(unittest.TestCase):
    def test_in_doors(self):
        floor = Floor(COUNTER)
        self.assertEqual(floor.ready(), [])
        self.assertIsNone(floor.give(0, 4))
        self.assertEqual(floor.ready(), [0])
        floor.give(0, 5)
        self.assertEqual(floor.work(0), 4)
        self.assertEqual(floor.ready(), [0, 1])
        self.assertEqual(floor.work(0), 5)
        self.assertEqual(floor.ready(), [1])
        floor.give(0, 0)
        self.assertEqual(floor.ready(), [0, 1])

    def test_a_belt_to_itself(self):
        floor = Floor(COUNTER)
        for thing in (4, 5):
            floor.give(0, thing)
            floor.work(0)
        self.assertEqual(floor.work(1), 14)
        self.assertEqual(floor.ready(), [1, 2])
        self.assertEqual(floor.work(1), 19)
        self.assertEqual(floor.ready(), [2])
        self.assertEqual((floor.work(2), floor.work(2)), (14, 19))
        self.assertEqual(floor.ready(), [])

    def test_belts_with_and_without_things(self):
        floor = Floor(((IN, hand("sum"), OUT), ((0, 1, ()), (0, 1, (7, 8)), (1, 2, (9,)))))
        self.assertEqual(floor.ready(), [2])
        self.assertEqual(floor.work(2), 9)
        self.assertEqual(floor.ready(), [])
        floor.give(0, 1)
        floor.work(0)
        self.assertEqual(floor.ready(), [1])
        self.assertEqual(floor.work(1), 8)
        self.assertEqual(floor.ready(), [2])

    def test_always(self):
        floor = Floor(((hand("always", 6), OUT, hand("always", -2)), ((0, 1, ()),)))
        self.assertEqual(floor.ready(), [0, 2])
        for turn in range(5):
            self.assertEqual((floor.work(0), floor.work(2)), (6, -2))
            self.assertEqual(floor.ready(), [0, 1, 2])
        for turn in range(5):
            self.assertEqual(floor.work(1), 6)
        self.assertEqual(floor.ready(), [0, 2])
        self.assertEqual(floor.made(2), [-2] * 5)

    def test_the_askers_own(self):
        floor = Floor(CLOSED)
        told = floor.ready()
        self.assertIs(type(told), list)
        self.assertEqual(told, [0, 2])
        told.append(1)
        told[0] = 9
        self.assertEqual(floor.ready(), [0, 2])

    def test_no_hands(self):
        self.assertEqual(Floor(EMPTY).ready(), [])


class Refused(unittest.TestCase):
    def test_not_ready(self):
        floor = Floor(ECHO)
        for number in (0, 1, 2):
            self.assertEqual(raised(NotReady, floor.work, number).hand, number)
        self.assertEqual(floor.work(3), 5)
        self.assertEqual(raised(NotReady, floor.work, 3).hand, 3)

    def test_nothing_is_changed(self):
        floor = Floor(((IN, IN, hand("gap"), OUT), ((0, 2, ()), (1, 2, ()), (2, 3, ()))))
        floor.give(0, 9)
        floor.work(0)
        for turn in range(3):
            self.assertEqual(raised(NotReady, floor.work, 2).hand, 2)
            self.assertEqual(floor.ready(), [])
            self.assertEqual(floor.made(2), [])
        floor.give(1, 4)
        floor.work(1)
        self.assertEqual(floor.work(2), 5)
        self.assertEqual(raised(NotReady, floor.work, 2).hand, 2)
        self.assertEqual(floor.made(2), [5])
        self.assertEqual(floor.work(3), 5)


class Made(unittest.TestCase):
    def test_the_askers_own(self):
        floor = Floor(CLOSED)
        self.assertEqual(floor.made(0), [])
        floor.work(0)
        told = floor.made(0)
        self.assertIs(type(told), list)
        told.append(99)
        told[0] = 98
        self.assertEqual(floor.made(0), [3])
        before = floor.made(0)
        floor.work(1)
        floor.work(0)
        self.assertEqual(before, [3])
        self.assertEqual(floor.made(0), [3, -6])
        self.assertEqual(floor.made(1), [-6])

    def test_in_doors(self):
        floor = Floor(COUNTER)
        for thing in (5, -3):
            floor.give(0, thing)
        self.assertEqual(floor.made(0), [])
        floor.work(0)
        self.assertEqual(floor.made(0), [5])
        floor.work(0)
        self.assertEqual(floor.made(0), [5, -3])

    def test_two_floors_of_one_room(self):
        kept = copy.deepcopy(COUNTER)
        one, other = Floor(COUNTER), Floor(COUNTER)
        one.give(0, 1)
        other.give(0, 100)
        one.work(0)
        self.assertEqual((one.ready(), other.ready()), ([1], [0]))
        other.work(0)
        self.assertEqual((one.work(1), other.work(1)), (11, 110))
        one.give(0, 2)
        one.work(0)
        self.assertEqual((one.work(1), other.made(1)), (13, [110]))
        self.assertEqual(COUNTER, kept)


class AnyOrder(unittest.TestCase):
    def by(self, room, rows, choose):
        """A floor on which hands worked as choose has it, till none of them was to make more than the rows ask for."""
        floor = Floor(room)
        doors = [number for number, (rule, spent) in enumerate(room[0]) if rule == ("in",)]
        for row in rows:
            for door, thing in zip(doors, row):
                floor.give(door, thing)
        while True:
            left = [number for number in floor.ready() if len(floor.made(number)) < len(rows)]
            if not left:
                return floor
            number = choose(left)
            before = floor.made(number)
            thing = floor.work(number)
            self.assertEqual(floor.made(number), before + [thing])

    def test_the_things_of_the_bells(self):
        draw = random.Random(181)
        for seed, room in enumerate([COUNTER, ECHO, CLOSED] + drawn_rooms(60, 182) + knit_rooms(40, 183)):
            rows = drawn_rows(room, 8, seed)
            bells = worked(room, rows)
            for choose in (min, max, draw.choice, lambda left: left[len(left) // 2]):
                floor = self.by(room, rows, choose)
                for number in range(len(room[0])):
                    self.assertEqual(floor.made(number), [made[number] for made in bells])

    def test_ready_is_rising_and_right(self):
        draw = random.Random(184)
        for seed, room in enumerate(drawn_rooms(40, 185) + knit_rooms(20, 186)):
            floor = Floor(room)
            for turn in range(40):
                told = floor.ready()
                self.assertEqual(told, sorted(told))
                for number in range(len(room[0])):
                    if number not in told:
                        self.assertEqual(raised(NotReady, floor.work, number).hand, number)
                self.assertEqual(floor.ready(), told)
                if told:
                    floor.work(draw.choice(told))
