import copy
import unittest

from beltshift.order import work_order
from beltshift.rooms import look_room
from tests.samples import CLOSED, COUNTER, ECHO, EMPTY, IN, OUT, drawn_rooms, hand


def by_the_words(room):
    """The order, found by asking anew of each hand that is left."""
    order = []
    while len(order) < len(room[0]):
        for number in range(len(room[0])):
            givers = [giver for giver, taker, things in room[1] if taker == number and not things]
            if number not in order and all(giver in order for giver in givers):
                order.append(number)
                break
    return order


class WorkOrder(unittest.TestCase):
    def ordered(self, room, order):
        look_room(room)
        self.assertEqual(work_order(room), order)

    def test_least_first(self):
        self.ordered(EMPTY, [])
        self.ordered(COUNTER, [0, 1, 2])
        self.ordered(ECHO, [0, 1, 2, 3])
        self.ordered(CLOSED, [0, 1, 2])
        self.ordered(((IN, IN, IN), ()), [0, 1, 2])

    def test_behind_those_it_takes_from(self):
        chain = (OUT, hand("same"), hand("same"), IN)
        self.ordered((chain, ((1, 0, ()), (2, 1, ()), (3, 2, ()))), [3, 2, 1, 0])

    def test_the_least_of_those_that_may(self):
        hands = (OUT, hand("sum"), IN, OUT, IN, hand("always", 1))
        self.ordered((hands, ((1, 0, ()), (2, 1, ()), (4, 1, ()), (2, 3, ()))), [2, 3, 4, 1, 0, 5])

    def test_belts_with_trays_bind_nothing(self):
        chain = (OUT, hand("same"), hand("same"), IN)
        self.ordered((chain, ((1, 0, (0,)), (2, 1, (0,)), (3, 2, (0, 0)))), [0, 1, 2, 3])
        self.ordered((chain, ((1, 0, ()), (2, 1, (0,)), (3, 2, ()))), [1, 0, 3, 2])

    def test_several_belts_between_two_hands(self):
        hands = (hand("pick"), IN, OUT)
        self.ordered((hands, ((1, 0, ()), (1, 0, ()), (1, 0, (5,)), (0, 2, ()))), [1, 0, 2])
        self.ordered((hands, ((1, 0, (1,)), (1, 0, (2,)), (0, 0, (5,)), (0, 2, ()))), [0, 1, 2])

    def test_as_the_words_have_it(self):
        for room in drawn_rooms(200, 2):
            self.ordered(room, by_the_words(room))

    def test_a_long_chain(self):
        many = 400
        belts = tuple((number + 1, number, ()) for number in range(many - 1))
        self.ordered(((hand("same"),) * (many - 1) + (IN,), belts), list(range(many - 1, -1, -1)))

    def test_told_anew(self):
        kept = copy.deepcopy(ECHO)
        first = work_order(ECHO)
        self.assertIs(type(first), list)
        first.reverse()
        first.append(9)
        self.assertEqual(work_order(ECHO), [0, 1, 2, 3])
        self.assertEqual(ECHO, kept)
