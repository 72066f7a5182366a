import copy
import random
import unittest

from beltshift.prices import prices_hold
from tests.samples import CLOSED, COUNTER, ECHO, EMPTY, IN, OUT, drawn_rooms, hand, knit_rooms
from tests.test_least import small_rooms
from tests.test_lookers import reaches, shifts_within
from tests.test_ways import counted

# Hand 1 hands on twice, hand 2 puts both together; trays 1, 0, 2 and 3.
FORK = (
    (IN, hand("same", moments=3), hand("sum", moments=4), OUT),
    ((0, 1, (5,)), (1, 2, ()), (1, 2, (6, 7)), (2, 3, (8, 9, 10))),
)


def right_belts(room):
    """Prices that bind: each belt by itself, at 1."""
    return tuple(((giver, (number,)), 1) for number, (giver, taker, things) in enumerate(room[1]))


def by_the_words(room, late, time, prices):
    """The count that prices hold down, or None where they do not bind or are none."""
    hands, belts = room
    count = sum(len(things) for giver, taker, things in belts) + late * [rule for rule, spent in hands].count(("out",))
    over = [0] * len(hands)
    for giver, taker, things in belts:
        over[giver] -= 1
        over[taker] += 1
    for (begin, numbers), many in prices:
        end = begin if 0 <= begin < len(hands) else None
        for number in numbers:
            if end is None or not 0 <= number < len(belts) or belts[number][0] != end:
                return None
            end = belts[number][1]
        if end is None or not numbers or many < 1:
            return None
        over[begin] += many
        over[end] -= many
        trays, moments = counted(room, (begin, numbers))
        count -= many * (trays - (moments > time)) + (late * many if hands[end][0] == ("out",) else 0)
    doors = (("in",), ("out",))
    return count if all(not left for left, (rule, spent) in zip(over, hands) if rule not in doors) else None


class PricesHold(unittest.TestCase):
    def told(self, answer, room, late, time, count, prices):
        kept = copy.deepcopy(room)
        for turn in range(2):
            self.assertIs(prices_hold(room, late, time, count, prices), answer, (late, time, count, prices))
        self.assertEqual(room, kept)

    def told_by_one(self, room, late, time, count, prices):
        """That prices hold down a count, and none beside it."""
        self.told(True, room, late, time, count, prices)
        for other in (count - 2, count - 1, count + 1, count + 2, -count - 1):
            self.told(False, room, late, time, other, prices)

    def never(self, room, prices):
        for late in (0, 2):
            for time in (0, 4, 400):
                for count in range(-4, 20):
                    self.told(False, room, late, time, count, prices)

    def test_belts_by_themselves(self):
        for late in (0, 1, 6):
            self.told_by_one(FORK, late, 7, 0, right_belts(FORK))
            self.told_by_one(FORK, late, 400, 0, right_belts(FORK))
            self.told_by_one(FORK, late, 6, 2, right_belts(FORK))
            self.told_by_one(FORK, late, 3, 3, right_belts(FORK))
            self.told_by_one(FORK, late, 2, 4, right_belts(FORK))

    def test_longer_ways(self):
        through = (((0, (0, 1, 3)), 1), ((1, (2,)), 1))
        for late in range(7):
            self.told_by_one(FORK, late, 7, 0, through)
            self.told_by_one(FORK, late, 6, 2, through)
        # Over the belt without trays both ways may go; two trays less are paid for.
        self.told_by_one(FORK, 0, 7, 2, (((0, (0, 1)), 1), ((1, (1,)), 1), ((2, (3,)), 1)))
        self.told_by_one(FORK, 0, 6, 4, (((0, (0, 1)), 1), ((1, (1,)), 1), ((2, (3,)), 1)))
        self.told_by_one(FORK, 0, 6, 4, (((0, (0,)), 1), ((1, (1,)), 2), ((2, (3,)), 1)))

    def test_out_doors_count_late(self):
        one = (((0, (0,)), 1), ((1, (1,)), 2), ((2, (3,)), 1))
        two = (((0, (0,)), 2), ((1, (1,)), 3), ((2, (3,)), 2))
        for late in range(7):
            self.told_by_one(FORK, late, 7, 2, one)
            self.told_by_one(FORK, late, 7, 6 + late - 2 - 2 * late - 6, two)
            self.told_by_one(FORK, late, 6, 6 + late - 2 - 2 * late - 6 + 3, two)

    def test_missing_by_one_at_one_hand(self):
        good = right_belts(FORK)
        for place, (way, many) in enumerate(good):
            self.never(FORK, good[:place] + good[place + 1:])
            self.never(FORK, good[:place] + ((way, 2),) + good[place + 1:])
            self.never(FORK, good + ((way, 1),))

    def test_doors_bind_nothing(self):
        room = ((IN, OUT), ((0, 1, (5, 6)),))
        for late in range(7):
            self.told_by_one(room, late, 0, 2 + late, ())
            self.told_by_one(room, late, 0, 0, (((0, (0,)), 1),))
            self.told_by_one(room, late, 0, -2 - late, (((0, (0,)), 2),))
            self.told_by_one(room, late, 0, -2 - late, (((0, (0,)), 1), ((0, (0,)), 1)))

    def test_no_pairs(self):
        lone = ((hand("always", 1), hand("always", 2)), ())
        ring = ((hand("same"), hand("same")), ((0, 1, (1,)), (1, 0, (2, 3))))
        for late in (0, 1, 6):
            self.told_by_one(EMPTY, late, 0, 0, ())
            self.told_by_one(lone, late, 0, 0, ())
            self.told_by_one(ring, late, 400, 3, ())
            self.told_by_one(CLOSED, late, 400, 1, ())
            self.told_by_one(((IN, IN), ()), late, 0, 0, ())
            # What comes over one belt goes on over another: this binds, too.
            self.told_by_one(((IN, hand("same"), OUT), ((0, 1, (4,)), (1, 2, ()))), late, 400, 1 + late, ())
        self.never(COUNTER, (((0, (0,)), 1),))
        self.never(FORK, ())
        self.never(ECHO, ())
        self.never(((hand("always", 1), OUT), ((0, 1, ()),)), ())

    def test_no_ways(self):
        good = right_belts(FORK)
        self.told_by_one(FORK, 0, 7, 0, good)
        for pair in [
            (0, ()), (1, ()), (4, ()), (-1, ()), (4, (0,)), (-4, (0,)), (0, (1,)), (1, (0,)), (0, (-4,)), (0, (4,)),
            (0, (0, 0)), (0, (0, 1, 2)), (1, (1, -1)), (-2, (3,)),
        ]:
            self.never(FORK, good + ((pair, 1),))
            self.never(FORK, ((pair, 1),) + good)
        for pair in [(0, ()), (1, ()), (2, ())]:
            self.never(CLOSED, ((pair, 1),))
        self.never(EMPTY, (((0, ()), 1),))
        self.never(EMPTY, (((0, (0,)), 1),))

    def test_numbers_below_1(self):
        good = right_belts(FORK)
        self.never(FORK, good + (((0, (0, 1)), 0),))
        self.never(FORK, (((1, (1,)), 3), ((1, (2,)), -1), ((0, (0,)), 1), ((2, (3,)), 1)))
        self.told_by_one(FORK, 0, 7, 2, (((1, (1,)), 2), ((0, (0,)), 1), ((2, (3,)), 1)))
        self.never(CLOSED, (((0, (1, 0)), -1),))
        self.never(CLOSED, (((0, (1, 0)), 0),))

    def test_closed_ways(self):
        # Such a way binds as none would; it costs its trays, one less where it is heavy.
        self.told_by_one(CLOSED, 0, 5, 1, (((0, (1, 0)), 1),))
        self.told_by_one(CLOSED, 0, 6, 0, (((0, (1, 0)), 1),))
        self.told_by_one(CLOSED, 0, 6, -6, (((0, (1, 0)), 7),))
        self.told_by_one(CLOSED, 0, 11, -13, (((0, (1, 0, 1, 0)), 7),))
        self.told_by_one(CLOSED, 0, 10, -6, (((0, (1, 0, 1, 0)), 7),))

    def test_where_they_hold_no_shifts_leave_fewer(self):
        draw = random.Random(131)
        held = 0
        for room in small_rooms(150, 132) + [room for room in knit_rooms(100, 133, most=5)]:
            if len([1 for rule, spent in room[0] if rule not in (("in",), ("out",))]) > 3:
                continue
            for late in (0, 1):
                prices = mixed(room, draw)
                time = draw.randrange(2, 40)
                count = by_the_words(room, late, time, prices)
                if count is not None:
                    self.told(True, room, late, time, count, prices)
                    for shifts in shifts_within(room, late, 2):
                        if reaches(room, late, time, shifts):
                            self.assertGreaterEqual(trays_left(room, shifts), count)
                            held += 1
        self.assertGreater(held, 500)

    def test_by_chance(self):
        draw = random.Random(134)
        answers = []
        for room in drawn_rooms(300, 135) + knit_rooms(100, 136):
            for late in (0, 1, 5):
                prices = mixed(room, draw)
                if prices and draw.randrange(3) == 0:
                    prices = prices[1:]
                time = draw.randrange(0, 30)
                count = by_the_words(room, late, time, prices)
                answers.append(count is not None)
                for other in range(-3, 30):
                    self.told(other == count, room, late, time, other, prices)
                if count is not None:
                    self.told_by_one(room, late, time, count, prices)
        self.assertGreater(answers.count(True), 100)
        self.assertGreater(answers.count(False), 100)


def trays_left(room, shifts):
    return sum(len(things) + shifts[taker] - shifts[giver] for giver, taker, things in room[1])


def mixed(room, draw):
    """Prices that bind: the belts, some of them put together to longer ways, and belts handed on by others."""
    left = [(giver, (number,)) for number, (giver, taker, things) in enumerate(room[1])]
    for turn in range(draw.randrange(0, 6)):
        draw.shuffle(left)
        joints = [(one, other) for one in left for other in left if one != other and ends(room, one) == other[0]]
        if joints:
            one, other = draw.choice(joints)
            left.remove(one)
            left.remove(other)
            left.append((one[0], one[1] + other[1]))
    return tuple((way, left.count(way)) for way in sorted(set(left)))


def ends(room, way):
    return room[1][way[1][-1]][1]
