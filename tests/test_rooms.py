import copy
import unittest

from beltshift.errors import NoRoom
from beltshift.rooms import comings, doors_in, doors_out, goings, look_room
from tests.samples import CLOSED, COUNTER, ECHO, EMPTY, IN, OUT, drawn_rooms, hand, raised

SAME = hand("same")
SUM = hand("sum")


class LookRoom(unittest.TestCase):
    def refused(self, word, at, room):
        kept = copy.deepcopy(room)
        error = raised(NoRoom, look_room, room)
        self.assertEqual((error.word, error.at), (word, at), room)
        self.assertIs(type(error.at), tuple)
        self.assertEqual(room, kept)

    def let_by(self, room):
        self.assertIs(look_room(room), True, room)

    def test_let_by(self):
        for room in [EMPTY, COUNTER, ECHO, CLOSED, ((IN,), ()), ((IN, IN, hand("always", 3, moments=0)), ())]:
            self.let_by(room)
        self.let_by(((hand("times", -9, moments=30),), ((0, 0, (1,)),)))
        self.let_by(((hand("always", 10 ** 20), OUT), ((0, 1, (10 ** 20,)),)))
        self.let_by(((hand("same", moments=0), OUT), ((0, 1, ()), (0, 0, (0, 0)))))

    def test_form_of_the_room(self):
        for room in [None, True, 0, 5, "", "ab", (), [], [(), ()], ((),), ((), (), ()), ([], ()), ((), [])]:
            self.refused("form", (), room)
        for room in [(None, ()), ((), None), ("", ""), ((), ""), (0, 0), ((), 0), ("", ()), (True, ()), ((), False)]:
            self.refused("form", (), room)

    def test_form_of_hands(self):
        hands = [(), (("in",),), (("in",), 0, 0), [("in",), 0], None, "in", "ab", 0, True]
        hands += [(("in",), True), (("same",), False), (("in",), None), (("in",), "0"), (("in",), (0,)), (("in",), [])]
        for wrong in hands:
            self.refused("form", (), ((wrong,), ()))
            self.refused("form", (), ((IN, wrong), ()))

    def test_form_of_belts(self):
        belts = [(), (0,), (0, 1), (0, 1, (), ()), [0, 1, ()], None, "abc", 7, False, (0, 1, []), (0, 1, None)]
        belts += [(False, 1, ()), (0, True, ()), ("0", 1, ()), (0, "1", ()), (None, 1, ()), (0, None, ()), (0, 1, "")]
        belts += [(0, 1, 0), (0, 1, (True,)), (0, 1, (1, False)), (0, 1, (None,)), (0, 1, ("1",)), (0, 1, (1, (1,)))]
        belts += [(0, 1, ([],)), ((0,), 1, ()), (0, [1], ())]
        for wrong in belts:
            self.refused("form", (), ((IN, OUT), (wrong,)))
            self.refused("form", (), ((IN, OUT), ((0, 1, ()), wrong)))

    def test_hand(self):
        rules = [None, 0, True, "in", "same", (), ("in", 0), ["in"], ("same", 1), ("times",), ("always",), ("times", True)]
        rules += [("times", "2"), ("always", None), ("times", 1, 2), ("odd",), (("in",),), (["in"],), [], ("", 1)]
        for rule in rules:
            self.refused("hand", (0,), (((rule, 0),), ()))
            self.refused("hand", (1,), ((IN, (rule, 0), (rule, 0)), ()))

    def test_moments(self):
        self.refused("hand", (0,), ((hand("always", 1, moments=-1),), ()))
        self.refused("hand", (1,), ((IN, hand("same", moments=-30)), ((0, 1, ()),)))
        for moments in [1, -1, 30]:
            self.refused("hand", (0,), (((("in",), moments),), ()))
            self.refused("hand", (1,), ((IN, (("out",), moments)), ((0, 1, ()),)))

    def test_first_hand(self):
        wrong = [(("odd",), 0), hand("same", moments=-1), (("in",), 1), (("out",), 2)]
        for one in wrong:
            for other in wrong:
                self.refused("hand", (2,), ((IN, SAME, one, other), ()))

    def test_belts_from_and_to_no_hand(self):
        for number in [-1, -2, 2, 3, 10 ** 20]:
            self.refused("belt", (0,), ((IN, OUT), ((number, 1, ()),)))
            self.refused("belt", (0,), ((IN, OUT), ((0, number, ()),)))
            self.refused("belt", (1,), ((IN, OUT), ((0, 1, ()), (number, number, ()))))
        self.refused("belt", (0,), ((), ((0, 0, ()),)))

    def test_belts_from_an_out_door(self):
        self.refused("belt", (1,), ((IN, OUT, SAME), ((0, 1, ()), (1, 2, ()))))
        self.refused("belt", (0,), ((OUT,), ((0, 0, ()),)))
        self.refused("belt", (0,), ((OUT,), ((0, 0, (1,)),)))

    def test_first_belt(self):
        wrong = [(-1, 0, ()), (0, 9, ()), (1, 2, ())]
        for one in wrong:
            for other in wrong:
                self.refused("belt", (1,), ((IN, OUT, SAME), ((0, 1, ()), one, other)))

    def test_count(self):
        for word, many in [("same", 1), ("sum", 2), ("gap", 2), ("below", 2), ("most", 2), ("least", 2), ("pick", 3)]:
            self.counted(hand(word), many)
        self.counted(hand("times", 2), 1)
        self.counted(hand("always", 2), 0)
        self.counted(IN, 0)
        self.counted(OUT, 1)

    def counted(self, last, many):
        for belts in range(5):
            room = ((IN, last), ((0, 1, ()),) * belts)
            if belts == many:
                self.let_by(room)
            else:
                self.refused("count", (1,), room)

    def test_first_count(self):
        self.refused("count", (1,), ((IN, SAME, SUM, OUT), ((0, 2, ()),)))
        self.refused("count", (2,), ((IN, SAME, SUM, OUT), ((0, 1, ()), (0, 2, ()))))
        self.refused("count", (0,), ((IN, SAME), ((1, 0, ()), (0, 1, ()))))

    def test_ring_of_one_belt(self):
        self.refused("ring", (0,), ((SAME,), ((0, 0, ()),)))
        self.refused("ring", (1,), ((IN, SUM), ((0, 1, ()), (1, 1, ()))))
        self.let_by(((SAME,), ((0, 0, (0,)),)))

    def test_ring_of_more_belts(self):
        self.refused("ring", (1,), ((IN, SUM, SAME, SAME), ((0, 1, ()), (1, 2, ()), (2, 3, ()), (3, 1, ()))))
        self.refused("ring", (0,), ((SAME, SAME), ((1, 0, ()), (0, 1, ()))))
        for tray in range(3):
            belts = [(1, 2, ()), (2, 3, ()), (3, 1, ())]
            belts[tray] = belts[tray][:2] + ((4,),)
            self.let_by(((IN, SUM, SAME, SAME), ((0, 1, ()), *belts)))

    def test_several_rings(self):
        self.refused("ring", (1,), ((hand("always", 1), SAME, SAME), ((2, 2, ()), (1, 1, ()))))
        hands = (SAME, SAME, SAME, SAME, SAME)
        belts = ((0, 0, (1,)), (4, 2, ()), (2, 4, ()), (3, 1, ()), (1, 3, ()))
        self.refused("ring", (1,), (hands, belts))

    def test_hands_that_lead_to_a_ring_or_hang_on_it(self):
        hands = (SAME, IN, SAME, SUM, SAME, SAME, OUT)
        belts = ((4, 0, ()), (1, 2, ()), (2, 3, ()), (5, 3, ()), (3, 4, ()), (4, 5, ()), (0, 6, ()))
        self.refused("ring", (3,), (hands, belts))

    def test_ring_through_one_of_two_belts(self):
        self.refused("ring", (0,), ((SUM,), ((0, 0, (1,)), (0, 0, ()))))
        self.refused("ring", (0,), ((SUM, SAME), ((1, 0, (1,)), (1, 0, ()), (0, 1, ()))))
        self.let_by(((SUM, SAME), ((1, 0, (1,)), (1, 0, (2,)), (0, 1, ()))))

    def test_a_long_ring(self):
        many = 700
        belts = tuple((number, (number + 1) % many, ()) for number in range(many))
        self.refused("ring", (0,), ((SAME,) * many, belts))
        self.let_by(((SAME,) * many, belts[:-1] + ((many - 1, 0, (0,)),)))

    def test_which_comes_first(self):
        form, wrong_hand = (0, 0, [0]), (("odd",), 0)
        belt, count, ring = (0, 99, ()), (IN, SUM), ((3, 3, ()),)
        self.refused("form", (), ((wrong_hand, IN, SUM, SAME), (form, belt, *ring)))
        self.refused("form", (), ((wrong_hand, None), (belt,)))
        self.refused("hand", (3,), ((IN, SUM, SAME, wrong_hand), (belt, (2, 2, ()))))
        self.refused("belt", (1,), ((*count, OUT, SAME), (*ring, belt)))
        self.refused("count", (1,), ((*count, OUT, SAME), ring))
        self.refused("count", (3,), ((SAME, IN, IN, OUT), ((0, 0, ()),)))
        self.refused("ring", (3,), ((IN, SUM, OUT, SAME), ((0, 1, ()), (0, 1, ()), (1, 2, ()), *ring)))

    def test_asked_again(self):
        ring = ((SAME,), ((0, 0, ()),))
        for number in range(3):
            self.let_by(ECHO)
            self.refused("ring", (0,), ring)
            self.refused("form", (), [])


class Asked(unittest.TestCase):
    ASKS = [(comings, (1,)), (goings, (0,)), (doors_in, ()), (doors_out, ())]

    def test_comings(self):
        self.assertEqual([comings(ECHO, number) for number in range(4)], [[], [0, 1], [2, 3], [4]])
        self.assertEqual([comings(COUNTER, number) for number in range(3)], [[], [0, 1], [2]])

    def test_goings(self):
        self.assertEqual([goings(ECHO, number) for number in range(4)], [[0, 1], [2, 3], [4], []])
        self.assertEqual([goings(COUNTER, number) for number in range(3)], [[0], [1, 2], []])

    def test_belts_out_of_the_hands_order(self):
        room = ((OUT, SUM, IN, OUT), ((1, 0, ()), (2, 1, ()), (1, 3, (1,)), (1, 1, (2,))))
        self.assertEqual([comings(room, number) for number in range(4)], [[0], [1, 3], [], [2]])
        self.assertEqual([goings(room, number) for number in range(4)], [[], [0, 2, 3], [1], []])

    def test_doors(self):
        room = ((OUT, IN, SUM, OUT, IN), ((2, 0, ()), (1, 2, ()), (4, 2, ()), (4, 3, ())))
        look_room(room)
        self.assertEqual((doors_in(room), doors_out(room)), ([1, 4], [0, 3]))
        self.assertEqual((doors_in(CLOSED), doors_out(CLOSED)), ([], []))
        self.assertEqual((doors_in(EMPTY), doors_out(EMPTY)), ([], []))

    def test_each_belt_comes_to_one_hand_and_leaves_one(self):
        for room in drawn_rooms(60, 1):
            hands = range(len(room[0]))
            belts = list(range(len(room[1])))
            self.assertEqual(sorted(sum([comings(room, number) for number in hands], [])), belts)
            self.assertEqual(sorted(sum([goings(room, number) for number in hands], [])), belts)
            for number in hands:
                self.assertEqual({room[1][belt][1] for belt in comings(room, number)} - {number}, set())
                self.assertEqual({room[1][belt][0] for belt in goings(room, number)} - {number}, set())
                self.assertEqual(comings(room, number), sorted(comings(room, number)))
                self.assertEqual(goings(room, number), sorted(goings(room, number)))

    def test_told_anew(self):
        for ask, more in self.ASKS:
            kept = copy.deepcopy(ECHO)
            first = ask(ECHO, *more)
            self.assertIs(type(first), list)
            before = list(first)
            first.append(99)
            first[0] = -5
            self.assertEqual(ask(ECHO, *more), before)
            self.assertEqual(ECHO, kept)
