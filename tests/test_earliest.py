import copy
import unittest

from beltshift.earliest import earliest
from tests.samples import CLOSED, COUNTER, ECHO, EMPTY, IN, OUT, drawn_rooms, hand, knit_rooms


def by_the_words(room, many):
    """What is told, worked out hand by hand from the words alone."""
    hands, belts = room
    known = {}

    def begins(number, work):
        if (number, work) not in known:
            found = [0]
            if work > 0:
                found.append(begins(number, work - 1) + hands[number][1])
            for giver, taker, things in belts:
                if taker == number and work >= len(things):
                    found.append(begins(giver, work - len(things)) + hands[giver][1])
            known[number, work] = max(found)
        return known[number, work]

    return [[begins(number, work) for work in range(many)] for number in range(len(hands))]


class Earliest(unittest.TestCase):
    def told(self, room, many, rows):
        kept = copy.deepcopy(room)
        self.assertEqual(earliest(room, many), rows)
        self.assertEqual(room, kept)

    def test_none(self):
        self.told(EMPTY, 0, [])
        self.told(EMPTY, 5, [])
        self.told(COUNTER, 0, [[], [], []])

    def test_a_hand_waits_for_itself(self):
        self.told(((hand("always", 1, moments=3), hand("always", 1, moments=0)), ()), 4, [[0, 3, 6, 9], [0, 0, 0, 0]])
        self.told(COUNTER, 3, [[0, 0, 0], [0, 2, 4], [2, 4, 6]])

    def test_belts_without_trays(self):
        room = ((IN, hand("same", moments=2), hand("same", moments=5), OUT), ((0, 1, ()), (1, 2, ()), (2, 3, ())))
        self.told(room, 4, [[0] * 4, [0, 2, 4, 6], [2, 7, 12, 17], [7, 12, 17, 22]])
        turned = ((OUT, hand("same", moments=5), hand("same", moments=2), IN), ((3, 2, ()), (2, 1, ()), (1, 0, ())))
        self.told(turned, 4, [[7, 12, 17, 22], [2, 7, 12, 17], [0, 2, 4, 6], [0] * 4])

    def test_trays(self):
        room = ((IN, hand("same", moments=2), hand("same", moments=1), OUT), ((0, 1, ()), (1, 2, (8, 9)), (2, 3, (7,))))
        self.told(room, 5, [[0] * 5, [0, 2, 4, 6, 8], [0, 1, 2, 4, 6], [0, 1, 2, 3, 5]])

    def test_rings(self):
        self.told(CLOSED, 4, [[0, 5, 10, 15], [1, 6, 11, 16], [0, 0, 0, 0]])
        two = ((hand("same", moments=1), hand("same", moments=4)), ((1, 0, (3, 3)), (0, 1, ())))
        self.told(two, 5, [[0, 1, 5, 9, 13], [1, 5, 9, 13, 17]])
        three = ((hand("same", moments=3), hand("same", moments=4)), ((1, 0, (3,)), (0, 1, (2, 2))))
        self.told(three, 5, [[0, 4, 8, 12, 16], [0, 4, 8, 12, 16]])

    def test_moments_of_0(self):
        room = ((hand("same", moments=0), hand("same", moments=0)), ((1, 0, (3,)), (0, 1, ())))
        self.told(room, 3, [[0, 0, 0], [0, 0, 0]])

    def test_by_chance(self):
        for room in [ECHO] + drawn_rooms(80, 191) + knit_rooms(60, 192):
            for many in (0, 1, 2, 9, 40):
                self.told(room, many, by_the_words(room, many))

    def test_the_askers_own(self):
        told = earliest(CLOSED, 2)
        self.assertIs(type(told), list)
        self.assertEqual([type(row) for row in told], [list] * 3)
        told[0].append(9)
        told[1][0] = 7
        told.append([])
        self.assertEqual(earliest(CLOSED, 2), [[0, 5], [1, 6], [0, 0]])
