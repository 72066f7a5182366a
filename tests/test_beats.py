import copy
import itertools
import math
import random
import unittest
from fractions import Fraction

from beltshift.beats import beat, holder, holder_holds, holding, holding_holds
from beltshift.earliest import earliest
from beltshift.least import least_time
from beltshift.slowed import slowed
from tests.samples import CLOSED, COUNTER, ECHO, EMPTY, IN, OUT, are_plain_ways, drawn_rooms, hand, knit_rooms

# Hands 0, 1, 2 go round over two trays, hands 1, 2 over one; 3 stands by itself.
RINGS = (
    (hand("same", moments=9), hand("sum", moments=3), hand("same", moments=4), hand("always", 0, moments=2)),
    ((0, 1, (1,)), (2, 1, (5,)), (1, 2, ()), (2, 0, (6,))),
)


def rings(room):
    """The trays and moments of all closed ways that come to no hand twice."""
    hands, belts = room
    for begin in range(len(hands)):
        left = [(begin, (), 0, 0)]
        while left:
            end, seen, trays, moments = left.pop()
            for giver, taker, things in belts:
                if giver == end and taker not in seen and taker >= begin:
                    further = (trays + len(things), moments + hands[taker][1])
                    if taker == begin:
                        yield further
                    else:
                        left.append((taker, seen + (taker,), *further))


def by_the_words(room):
    """The beat, of all hands and all rings."""
    found = [Fraction(moments) for rule, moments in room[0]]
    found += [Fraction(moments, trays) for trays, moments in rings(room)]
    greatest = max(found, default=Fraction(0))
    return (greatest.numerator, greatest.denominator)


def chord_rooms(many, seed):
    """Rooms of rings in rings: each hand takes from the one ahead of it, round, and from some other over trays."""
    draw = random.Random(seed)
    rooms = []
    for turn in range(many):
        count = draw.randrange(3, 9)
        hands = tuple(hand("sum", moments=draw.randrange(0, 9)) for number in range(count))
        belts = [(number, number + 1, (1,) * draw.choice([0, 0, 1])) for number in range(count - 1)]
        belts.append((count - 1, 0, (1,) * draw.randrange(1, 4)))
        belts += [(draw.randrange(count), taker, (1,) * draw.randrange(1, 7)) for taker in range(count)]
        draw.shuffle(belts)
        rooms.append((hands, tuple(belts)))
    return rooms


class Beat(unittest.TestCase):
    def beat(self, room):
        """The beat that is told, with its papers looked at."""
        kept = copy.deepcopy(room)
        told = beat(room)
        way = holder(room)
        numbers = holding(room)
        self.assertEqual(room, kept)
        self.assertIs(type(told), tuple)
        self.assertEqual([type(part) for part in told], [int, int])
        a, b = told
        self.assertGreaterEqual(b, 1)
        self.assertEqual(math.gcd(a, b), 1)
        self.assertIs(type(numbers), tuple)
        self.assertEqual([type(number) for number in numbers], [int] * len(room[0]))
        self.assertIs(holding_holds(room, told, numbers), True)
        if room[0]:
            self.assertTrue(are_plain_ways((way,)))
            self.assertIs(holder_holds(room, told, way), True)
        else:
            self.assertIsNone(way)
        return told

    def test_no_hands(self):
        self.assertEqual(self.beat(EMPTY), (0, 1))
        self.assertEqual(holding(EMPTY), ())

    def test_a_hand_alone(self):
        self.assertEqual(self.beat(((hand("always", 1, moments=7), hand("always", 1, moments=3)), ())), (7, 1))
        self.assertEqual(self.beat(COUNTER), (2, 1))
        self.assertEqual(self.beat(ECHO), (3, 1))
        self.assertEqual(self.beat(((IN, OUT), ((0, 1, ()),))), (0, 1))
        self.assertEqual(self.beat(RINGS), (9, 1))

    def test_rings(self):
        self.assertEqual(self.beat(CLOSED), (5, 1))
        hands, belts = RINGS
        self.assertEqual(self.beat(((hand("same", moments=6),) + hands[1:], belts)), (7, 1))
        self.assertEqual(self.beat((hands, ((0, 1, ()),) + belts[1:])), (16, 1))
        self.assertEqual(self.beat((hands, ((0, 1, (1, 1)), (2, 1, (5, 5)), (1, 2, ()), (2, 0, (6,))))), (9, 1))

    def test_fractions(self):
        for moments, trays, told in [
            ((3, 4), 1, (7, 1)), ((3, 4), 2, (4, 1)), ((4, 4, 4), 2, (6, 1)), ((4, 4, 3), 2, (11, 2)),
            ((3, 3, 3, 1), 3, (10, 3)), ((3, 3, 3, 3), 3, (4, 1)), ((2, 2, 2, 2), 3, (8, 3)), ((5, 5, 5, 6), 3, (7, 1)),
            ((1, 1, 1, 1), 6, (1, 1)), ((2, 3, 2, 3), 4, (3, 1)), ((3, 3, 3, 3, 2), 4, (7, 2)),
        ]:
            many = len(moments)
            hands = tuple(hand("same", moments=spent) for spent in moments)
            belts = [(number, (number + 1) % many, (1,) * (trays if number == 1 else 0)) for number in range(many)]
            self.assertEqual(self.beat((hands, tuple(belts))), told)

    def test_moments_all_0(self):
        room = ((hand("same", moments=0), hand("same", moments=0)), ((0, 1, ()), (1, 0, (4,))))
        self.assertEqual(self.beat(room), (0, 1))

    def test_by_chance(self):
        found = []
        for room in drawn_rooms(200, 201) + knit_rooms(100, 202) + chord_rooms(200, 212):
            found.append(self.beat(room))
            self.assertEqual(found[-1], by_the_words(room))
        self.assertGreater(len([1 for a, b in found if b > 1]), 20)

    def test_slowed(self):
        for room in knit_rooms(60, 203) + chord_rooms(60, 213):
            a, b = self.beat(room)
            for k in (2, 3):
                greatest = max(moments for rule, moments in room[0])
                rounds = max([Fraction(moments, trays) for trays, moments in rings(room)], default=Fraction(0))
                self.assertEqual(Fraction(*self.beat(slowed(room, k))), max(rounds / k, greatest))

    def test_below_the_least_time(self):
        for room in [RINGS, CLOSED, ECHO] + drawn_rooms(150, 204) + knit_rooms(150, 205) + chord_rooms(150, 214):
            a, b = beat(room)
            time, shifts, bar = least_time(room, None)
            greatest = max([moments for rule, moments in room[0]], default=0)
            self.assertLessEqual(a, b * time)
            if greatest > 0:
                self.assertLess(b * time, a + b * greatest)
            else:
                self.assertEqual(time, 0)

    def test_works_come_by_the_beat(self):
        for room in drawn_rooms(60, 206) + knit_rooms(80, 207) + chord_rooms(60, 215):
            a, b = beat(room)
            numbers = holding(room)
            rows = earliest(room, 40)
            for number, row in zip(numbers, rows):
                for work, begins in enumerate(row):
                    self.assertLessEqual(b * begins, number + a * work)
            # Each time round the holder, as many works later as it has trays, its moments are spent.
            if room[0]:
                start, belts = holder(room)
                trays = sum(len(room[1][belt][2]) for belt in belts) if belts else 1
                for work in range(trays, 40):
                    self.assertGreaterEqual(b * (rows[start][work] - rows[start][work - trays]), a * trays)

    def test_asked_again(self):
        for room in [RINGS] + knit_rooms(10, 208):
            first = (beat(room), holder(room), holding(room))
            beat(CLOSED)
            self.assertEqual((beat(room), holder(room), holding(room)), first)


class HolderHolds(unittest.TestCase):
    def told(self, answer, room, fraction, way):
        kept = copy.deepcopy(room)
        for turn in range(2):
            self.assertIs(holder_holds(room, fraction, way), answer, (fraction, way))
        self.assertEqual(room, kept)

    def test_without_belts(self):
        for number, moments in enumerate((9, 3, 4, 2)):
            for a in range(12):
                self.told(a == moments, RINGS, (a, 1), (number, ()))
                self.told(a == 2 * moments, RINGS, (a, 2), (number, ()))
                self.told(3 * a == 3 * moments, RINGS, (3 * a, 3), (number, ()))
        self.told(True, COUNTER, (0, 1), (0, ()))
        self.told(True, COUNTER, (0, 5), (0, ()))
        self.told(False, COUNTER, (1, 5), (0, ()))

    def test_closed(self):
        round_one = (0, (0, 2, 3))
        for a in range(40):
            for b in range(1, 5):
                self.told(a * 2 == b * 16, RINGS, (a, b), round_one)
                self.told(a == b * 7, RINGS, (a, b), (1, (2, 1)))
                self.told(a == b * 7, RINGS, (a, b), (2, (1, 2)))
                self.told(a == b * 7, RINGS, (a, b), (1, (2, 1, 2, 1)))
                self.told(a * 3 == b * 23, RINGS, (a, b), (1, (2, 1, 2, 3, 0)))
        self.told(True, RINGS, (23, 3), (1, (2, 1, 2, 3, 0)))

    def test_not_closed(self):
        for fraction in [(a, b) for a in range(20) for b in range(1, 4)]:
            self.told(False, RINGS, fraction, (0, (0,)))
            self.told(False, RINGS, fraction, (0, (0, 2)))
            self.told(False, RINGS, fraction, (1, (2,)))
            self.told(False, RINGS, fraction, (0, (0, 2, 3, 0)))

    def test_no_ways(self):
        for fraction in [(a, b) for a in range(20) for b in range(1, 4)]:
            for pair in [(4, ()), (-1, ()), (0, (2,)), (0, (4,)), (0, (-4, 2, 3)), (-4, (0, 2, 3)), (1, (2, 1, 1)), (1, (2, 2))]:
                self.told(False, RINGS, fraction, pair)
            self.told(False, EMPTY, fraction, (0, ()))


class HoldingHolds(unittest.TestCase):
    def told(self, answer, room, fraction, numbers):
        kept = copy.deepcopy(room)
        for turn in range(2):
            self.assertIs(holding_holds(room, fraction, numbers), answer, (fraction, numbers))
        self.assertEqual(room, kept)

    def test_no_hands(self):
        for fraction in [(0, 1), (5, 2), (0, 7)]:
            self.told(True, EMPTY, fraction, ())

    def test_hands(self):
        lone = ((hand("always", 1, moments=3), hand("always", 1, moments=5)), ())
        for a, b, answer in [(5, 1, True), (6, 1, True), (4, 1, False), (10, 2, True), (9, 2, False), (15, 3, True), (14, 3, False)]:
            for numbers in [(0, 0), (7, 0), (0, 1000), (1000000, 1000000)]:
                self.told(answer, lone, (a, b), numbers)
            for numbers in [(-1, 0), (0, -1), (-1000000, 5)]:
                self.told(False, lone, (a, b), numbers)

    def test_belts_that_ask_for_one_more(self):
        # By (9, 1): hand 1 at least hand 0 and none, hand 2 hand 1 and 3, hand 1 hand 2 less 5, hand 0 hand 2 less 5.
        self.told(True, RINGS, (9, 1), (0, 0, 3, 0))
        self.told(False, RINGS, (9, 1), (0, 0, 2, 0))
        self.told(True, RINGS, (9, 1), (0, 0, 5, 0))
        self.told(False, RINGS, (9, 1), (0, 0, 6, 0))
        self.told(True, RINGS, (9, 1), (1, 1, 6, 0))
        self.told(False, RINGS, (9, 1), (1, 0, 5, 0))
        self.told(False, RINGS, (9, 1), (0, 1, 6, 0))
        self.told(True, RINGS, (9, 1), (1, 3, 6, 500))
        self.told(False, RINGS, (8, 1), (1, 3, 6, 500))
        self.told(True, RINGS, (18, 2), (0, 0, 6, 0))
        self.told(False, RINGS, (18, 2), (0, 0, 5, 0))
        self.told(True, RINGS, (19, 2), (0, 0, 6, 0))
        self.told(False, RINGS, (17, 2), (0, 0, 6, 0))

    def test_a_ring_that_none_holds_down(self):
        room = (RINGS[0], ((0, 1, ()),) + RINGS[1][1:])
        for a in range(9, 16):
            for some in itertools.product(range(0, 17, 4), repeat=3):
                self.told(False, room, (a, 1), (*some, 0))
        self.told(True, room, (16, 1), (0, 9, 12, 0))

    def test_where_they_hold_works_are_in_time(self):
        draw = random.Random(209)
        held = 0
        for room in knit_rooms(60, 210, most=4):
            rows = earliest(room, 12)
            greatest = max(moments for rule, moments in room[0])
            for turn in range(40):
                b = draw.randrange(1, 4)
                fraction = (b * greatest + draw.randrange(0, 60), b)
                numbers = tuple(draw.randrange(0, 90) for number in room[0])
                answer = by_the_words_held(room, fraction, numbers)
                self.told(answer, room, fraction, numbers)
                if answer:
                    held += 1
                    for number, row in zip(numbers, rows):
                        for work, begins in enumerate(row):
                            self.assertLessEqual(fraction[1] * begins, number + fraction[0] * work)
        self.assertGreater(held, 50)

    def test_one_less(self):
        lowered = 0
        for room in knit_rooms(100, 211):
            fraction = beat(room)
            numbers = holding(room)
            for place in range(len(numbers)):
                other = numbers[:place] + (numbers[place] - 1,) + numbers[place + 1:]
                self.told(by_the_words_held(room, fraction, other), room, fraction, other)
                lowered += not by_the_words_held(room, fraction, other)
            a, b = fraction
            if a > 0:
                for some in (numbers, (0,) * len(numbers), tuple(2 * number for number in numbers)):
                    self.told(False, room, (2 * a - 1, 2 * b), some)
        self.assertGreater(lowered, 100)


def by_the_words_held(room, fraction, numbers):
    a, b = fraction
    if min(numbers, default=0) < 0 or any(b * moments > a for rule, moments in room[0]):
        return False
    for giver, taker, things in room[1]:
        if numbers[taker] < numbers[giver] + b * room[0][giver][1] - a * len(things):
            return False
    return True
