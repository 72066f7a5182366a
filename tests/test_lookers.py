import copy
import itertools
import unittest

from beltshift.lookers import shifts_hold
from tests.samples import CLOSED, COUNTER, ECHO, EMPTY, IN, OUT, drawn_rooms, drawn_shifts, hand

# Moments 2, 3 and 4, one behind the other.
LINE = (
    (IN, hand("same", moments=2), hand("same", moments=3), hand("same", moments=4), OUT),
    ((0, 1, ()), (1, 2, ()), (2, 3, (1,)), (3, 4, (2, 3))),
)


def reaches(room, late, time, shifts):
    """Whether shifts reach a time, as the document's words have it."""
    hands, belts = room
    lates = [late] if late is not None else range(0, max(shifts, default=0) + 1)
    for number, (rule, moments) in enumerate(hands):
        if rule == ("in",) and shifts[number] != 0:
            return False
    outs = [shifts[number] for number, (rule, moments) in enumerate(hands) if rule == ("out",)]
    if outs and not any(all(shift == told for shift in outs) for told in lates):
        return False
    trays = [len(things) + shifts[taker] - shifts[giver] for giver, taker, things in belts]
    if any(many < 0 for many in trays):
        return False
    return all(longest(room, trays, number) <= time for number in range(len(hands)))


def longest(room, trays, begin):
    """The greatest moments of ways that begin at a hand, along belts that have no trays now."""
    further = [longest(room, trays, belt[1]) for belt, many in zip(room[1], trays) if belt[0] == begin and not many]
    return room[0][begin][1] + max(further, default=0)


def shifts_within(room, late, bound):
    """All shifts between two bounds, doors as they must be."""
    lates = range(0, bound + 1) if late is None else [late]
    free = [rule not in (("in",), ("out",)) for rule, moments in room[0]]
    for told in lates:
        for some in itertools.product(range(-bound, bound + 1), repeat=sum(free)):
            left = list(some)
            doors = [told if rule == ("out",) else 0 for rule, moments in room[0]]
            yield tuple(left.pop() if own else door for own, door in zip(free, doors))


class ShiftsHold(unittest.TestCase):
    def told(self, answer, room, late, time, shifts):
        kept = copy.deepcopy(room)
        for turn in range(2):
            self.assertIs(shifts_hold(room, late, time, shifts), answer, (late, time, shifts))
        self.assertEqual(room, kept)
        self.assertEqual(reaches(room, late, time, shifts), answer)

    def told_by_one(self, room, late, time, shifts):
        """That shifts reach a time, and not one moment less."""
        for further in (time, time + 1, 400):
            self.told(True, room, late, further, shifts)
        for less in (time - 1, 0):
            if 0 <= less < time:
                self.told(False, room, late, less, shifts)

    def test_by_one_moment(self):
        self.told_by_one(LINE, 0, 5, (0, 0, 0, 0, 0))
        self.told_by_one(LINE, 0, 9, (0, 0, 0, -1, 0))
        self.told_by_one(LINE, 0, 7, (0, 0, 1, 0, 0))
        self.told_by_one(LINE, 0, 4, (0, 0, 1, 1, 0))
        self.told_by_one(LINE, 0, 9, (0, 1, 1, 0, 0))
        self.told_by_one(LINE, 3, 4, (0, 0, 1, 1, 3))
        self.told_by_one(COUNTER, 0, 2, (0, 0, 0))
        self.told_by_one(ECHO, 1, 3, (0, 0, 1, 1))

    def test_a_way_that_comes_to_be_by_the_moving(self):
        hands = (IN, hand("same", moments=2), hand("same", moments=3), hand("same", moments=4), OUT)
        room = (hands, ((0, 1, ()), (1, 2, (1,)), (2, 3, (1,)), (3, 4, ())))
        self.told_by_one(room, 0, 4, (0, 0, 0, 0, 0))
        self.told_by_one(room, 0, 9, (0, 2, 1, 0, 0))
        self.told_by_one(room, 0, 5, (0, 1, 0, 0, 0))
        self.told_by_one(room, 0, 7, (0, 0, 0, -1, 0))
        self.told_by_one(room, 0, 9, (0, 0, -1, -2, 0))

    def test_not_let_by(self):
        for time in (0, 9, 400):
            self.told(False, LINE, 0, time, (1, 1, 1, 1, 0))
            self.told(False, LINE, 0, time, (0, 0, 0, 0, 1))
            self.told(False, LINE, 1, time, (0, 0, 0, 0, 0))
            self.told(False, LINE, 0, time, (0, -1, 0, 0, 0))
            self.told(False, LINE, 0, time, (0, 0, 0, 3, 0))
            self.told(False, LINE, 0, time, (0, 0, 3, 1, 0))

    def test_any_lateness(self):
        two = ((IN, IN, OUT, OUT), ((0, 2, (1, 2)), (1, 3, (3, 4))))
        for late in range(7):
            self.told(True, two, None, 0, (0, 0, late, late))
            self.told(False, two, None, 0, (0, 0, late, late + 1))
            self.told(False, two, None, 400, (0, 0, late + 1, late))
            self.told(False, two, None, 400, (0, 1, late, late))
            self.told(False, two, None, 400, (-1, 0, late, late))
        self.told(False, two, None, 400, (0, 0, -1, -1))
        self.told(False, two, None, 400, (0, 0, -2, -2))
        self.told(False, two, None, 400, (0, 0, -1, 0))
        self.told(False, two, None, 400, (0, 0, 0, -1))
        self.told_by_one(LINE, None, 4, (0, 0, 1, 1, 0))
        self.told_by_one(LINE, None, 5, (0, 0, 0, 0, 5))

    def test_no_out_door(self):
        room = ((IN, hand("same", moments=3)), ((0, 1, (1,)),))
        for late in (None, 0, 1, 6):
            self.told_by_one(room, late, 3, (0, 0))
            self.told_by_one(room, late, 3, (0, -1))
            self.told_by_one(room, late, 3, (0, 9))
            self.told(False, room, late, 400, (0, -2))
            self.told(False, room, late, 400, (1, 1))
            self.told_by_one(CLOSED, late, 5, (0, 0, 4))
            self.told_by_one(CLOSED, late, 5, (-5, -4, 4))

    def test_no_in_door(self):
        room = ((hand("always", 1, moments=2), OUT, OUT), ((0, 1, ()), (0, 2, (1,))))
        for late in (None, 0, 1, 6):
            told = late or 0
            self.told_by_one(room, late, 2, (told, told, told))
            self.told_by_one(room, late, 2, (-9, told, told))
            self.told(False, room, late, 400, (told + 1, told, told))
            self.told(False, room, late, 400, (-9, told, told + 1))
        self.told(False, room, None, 400, (-9, -1, -1))

    def test_no_hands(self):
        for late in (None, 0, 6):
            for time in (0, 400):
                self.told(True, EMPTY, late, time, ())

    def test_by_chance(self):
        answers = []
        for seed, room in enumerate(drawn_rooms(250, 71)):
            for late in (seed % 7, None):
                shifts = drawn_shifts(room, seed % 7, seed)
                for time in range(0, 16, 3):
                    answers.append(reaches(room, late, time, shifts))
                    self.told(answers[-1], room, late, time, shifts)
        self.assertGreater(answers.count(True), 100)
        self.assertGreater(answers.count(False), 100)

    def test_all_within_bounds(self):
        for room in [COUNTER, ECHO, CLOSED]:
            for some in itertools.product(range(-2, 3), repeat=len(room[0])):
                for late in (None, 0, 1):
                    self.told(reaches(room, late, 4, some), room, late, 4, some)
