import copy
import itertools
import random
import unittest

from beltshift.alike import joined_alike, kinds
from beltshift.formulatexts import read_formulas
from beltshift.maker import made_room
from beltshift.rooms import look_room
from beltshift.runs import run, worked
from tests.samples import CLOSED, COUNTER, ECHO, EMPTY, IN, OUT, drawn_rooms, drawn_rows, hand, knit_rooms

DOORS = (("in",), ("out",))


def is_parting(room, told):
    """Whether hands of one number have all that hands of one kind must have."""
    hands, belts = room
    coming = [[(told[giver], things) for giver, taker, things in belts if taker == number] for number in range(len(hands))]
    for one in range(len(hands)):
        for other in range(one):
            if told[one] == told[other]:
                if hands[one][0] != hands[other][0] or hands[one][0] in DOORS or coming[one] != coming[other]:
                    return False
    return True


def all_partings(many):
    """All ways to number so many hands, from 0 as kinds come up."""
    if many == 0:
        return [()]
    return [told + (kind,) for told in all_partings(many - 1) for kind in range(max(told, default=-1) + 2)]


def twin_room(draw):
    """A room in which many hands are alike: a small one, each hand that is no door some times."""
    hands = [IN] + [hand(draw.choice(["same", "sum"]), moments=draw.randrange(5)) for number in range(draw.randrange(1, 4))]
    places = [[0]] + [[] for number in hands[1:]]
    all_hands = [IN]
    for number, own in enumerate(hands[1:], start=1):
        for turn in range(draw.randrange(1, 4)):
            places[number].append(len(all_hands))
            all_hands.append((own[0], draw.randrange(5)))
    belts = []
    for number, (rule, spent) in enumerate(hands):
        for belt in range({"in": 0, "same": 1, "sum": 2}[rule[0]]):
            giver = draw.randrange(len(hands))
            things = tuple(draw.randrange(2) for tray in range(draw.randrange(1, 3) if giver >= number else draw.randrange(2)))
            for copied in places[number]:
                odd = draw.randrange(8) == 0
                belts.append((draw.choice(places[giver]), copied, things + (0,) if odd else things))
    outs = [(draw.randrange(len(all_hands)), len(all_hands) + out, ()) for out in range(2)]
    return (tuple(all_hands) + (OUT, OUT), tuple(belts + outs))


def twin_rooms(many, seed):
    draw = random.Random(seed)
    return [twin_room(draw) for turn in range(many)]


class Kinds(unittest.TestCase):
    def told(self, room, numbers):
        kept = copy.deepcopy(room)
        for turn in range(2):
            self.assertEqual(kinds(room), numbers)
        self.assertEqual(room, kept)

    def test_no_hands(self):
        self.told(EMPTY, ())

    def test_rules(self):
        self.told(((hand("always", 1), hand("always", 2), hand("always", 1, moments=9)), ()), (0, 1, 0))
        hands = (IN, hand("most"), hand("least"), hand("most", moments=3), hand("times", 2), hand("times", 3), hand("times", 2))
        belts = tuple((0, taker, ()) for taker in (1, 1, 2, 2, 3, 3, 4, 5, 6))
        self.told((hands, belts), (0, 1, 2, 1, 3, 4, 3))

    def test_doors(self):
        self.told(((IN, IN, OUT, OUT), ((0, 2, ()), (0, 3, ()))), (0, 1, 2, 3))
        room = ((IN, IN, hand("same"), hand("same"), hand("same")), ((0, 2, ()), (1, 3, ()), (0, 4, ())))
        self.told(room, (0, 1, 2, 3, 2))

    def test_things(self):
        hands = (IN,) + (hand("same"),) * 5
        room = (hands, ((0, 1, (4, 5)), (0, 2, (4, 5)), (0, 3, (4, 6)), (0, 4, (4, 5, 5)), (0, 5, (4,))))
        self.told(room, (0, 1, 1, 2, 3, 4))
        self.told((hands, tuple((0, taker, ()) for taker in range(1, 6))), (0, 1, 1, 1, 1, 1))

    def test_order_of_the_belts(self):
        hands = (IN, IN, hand("gap"), hand("gap"), hand("gap"))
        belts = ((0, 2, ()), (1, 2, ()), (1, 3, ()), (0, 3, ()), (0, 4, ()), (1, 4, ()))
        self.told((hands, belts), (0, 1, 2, 3, 2))

    def test_far_behind(self):
        # Two lines of five, alike but for the thing on the first belt of each.
        hands = (hand("always", 3),) + (hand("same"),) * 10

        def lines(one, other):
            belts = [(0, 1, (one,)), (0, 6, (other,))]
            belts += [(number, number + 1, (7,)) for number in (1, 2, 3, 4, 6, 7, 8, 9)]
            return (hands, tuple(belts))

        self.told(lines(5, 5), (0, 1, 2, 3, 4, 5, 1, 2, 3, 4, 5))
        self.told(lines(5, 6), (0, 1, 2, 3, 4, 5, 6, 7, 8, 9, 10))

    def test_rings(self):
        # Hands that hang on each other alone are alike as long as nothing parts them.
        ring = (hand("same"), hand("same", moments=2), hand("same", moments=5))
        self.told((ring, ((0, 1, (4,)), (1, 2, (4,)), (2, 0, (4,)))), (0, 0, 0))
        self.told((ring, ((0, 1, (4,)), (1, 2, (4,)), (2, 0, (5,)))), (0, 1, 2))
        self.told((ring, ((0, 1, (4,)), (1, 2, (4,)), (2, 0, (4, 4)))), (0, 1, 2))
        self.told((ring, ((0, 0, (4,)), (1, 1, (4,)), (2, 2, (4,)))), (0, 0, 0))
        self.told((ring, ((0, 0, (4,)), (2, 1, (4,)), (1, 2, (4,)))), (0, 0, 0))
        self.told(CLOSED, (0, 1, 2))

    def test_numbered_as_they_come_up(self):
        hands = (hand("always", 2), hand("always", 1), hand("always", 2), hand("always", 0), hand("always", 1))
        self.told((hands, ()), (0, 1, 0, 2, 1))

    def test_the_fewest(self):
        for room in [room for room in drawn_rooms(300, 221) + twin_rooms(100, 222) if len(room[0]) <= 6]:
            good = [told for told in all_partings(len(room[0])) if is_parting(room, told)]
            fewest = min(max(told, default=-1) for told in good)
            self.assertEqual([told for told in good if max(told, default=-1) == fewest], [kinds(room)])

    def test_by_chance(self):
        joined = 0
        for seed, room in enumerate(drawn_rooms(100, 223) + twin_rooms(150, 224)):
            told = kinds(room)
            self.assertIs(type(told), tuple)
            self.assertTrue(is_parting(room, told))
            bells = worked(room, drawn_rows(room, 9, seed))
            for one, other in itertools.combinations(range(len(told)), 2):
                if told[one] == told[other]:
                    joined += 1
                    self.assertEqual([made[one] for made in bells], [made[other] for made in bells])
        self.assertGreater(joined, 100)


class JoinedAlike(unittest.TestCase):
    def joined(self, room):
        kept = copy.deepcopy(room)
        told = joined_alike(room)
        self.assertEqual(room, kept)
        self.assertIs(look_room(told), True)
        self.assertEqual(told, by_the_words(room))
        self.assertEqual(joined_alike(told), told)
        self.assertEqual(kinds(told), tuple(range(len(told[0]))))
        return told

    def test_no_hands(self):
        self.assertEqual(self.joined(EMPTY), EMPTY)

    def test_hand_by_hand(self):
        hands = (OUT, hand("sum", moments=4), IN, hand("same", moments=5), hand("same", moments=3), OUT)
        room = (hands, ((3, 1, (1,)), (2, 4, (7, 8)), (1, 0, ()), (4, 1, ()), (2, 3, (7, 8)), (4, 5, (6,))))
        after = (
            (OUT, hand("sum", moments=4), IN, hand("same", moments=3), OUT),
            ((1, 0, ()), (3, 1, (1,)), (3, 1, ()), (2, 3, (7, 8)), (3, 4, (6,))),
        )
        self.assertEqual(self.joined(room), after)

    def test_the_fewest_moments(self):
        for moments in itertools.permutations((2, 0, 9)):
            room = (tuple(hand("always", 1, moments=spent) for spent in moments), ())
            self.assertEqual(self.joined(room), ((hand("always", 1, moments=0),), ()))

    def test_a_ring(self):
        ring = (hand("same", moments=3), hand("same", moments=2), hand("same", moments=5))
        room = (ring, ((0, 1, (4,)), (1, 2, (4,)), (2, 0, (4,))))
        self.assertEqual(self.joined(room), ((hand("same", moments=2),), ((0, 0, (4,)),)))

    def test_unlike_hands_stay(self):
        self.assertEqual(self.joined(COUNTER), COUNTER)
        self.assertEqual(self.joined(ECHO), ECHO)
        self.assertEqual(self.joined(CLOSED), CLOSED)

    def test_it_tells_the_same(self):
        fewer = 0
        for seed, room in enumerate(drawn_rooms(80, 225) + knit_rooms(40, 226) + twin_rooms(150, 227)):
            after = self.joined(room)
            rows = drawn_rows(room, 10, seed)
            self.assertEqual(run(after, rows), run(room, rows))
            told = kinds(room)
            for one, other in zip(worked(room, rows), worked(after, rows)):
                self.assertEqual(one, tuple(other[kind] for kind in told))
            fewer += len(after[0]) < len(room[0])
        self.assertGreater(fewer, 60)

    def test_a_made_room(self):
        room = made_room(read_formulas("in a b\nx = a + b\ny = a + b\nz = ( a + b ) - y @ 1\nout x y z"), (1,) * 9)
        self.assertLess(len(self.joined(room)[0]), len(room[0]))


def by_the_words(room):
    hands, belts = room
    told = kinds(room)
    many = len(set(told))
    firsts = [told.index(kind) for kind in range(many)]
    after = []
    for kind, first in enumerate(firsts):
        after += [(told[giver], kind, things) for giver, taker, things in belts if taker == first]
    moments = [min(spent for (rule, spent), own in zip(hands, told) if own == kind) for kind in range(many)]
    return (tuple((hands[first][0], spent) for first, spent in zip(firsts, moments)), tuple(after))
