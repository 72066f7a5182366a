import unittest

from beltshift.rules import is_rule, made_by, needs

PLAIN = {"same": 1, "sum": 2, "gap": 2, "below": 2, "most": 2, "least": 2, "pick": 3, "in": 0, "out": 1}
NUMBERED = {"times": 1, "always": 0}


class IsRule(unittest.TestCase):
    def yes(self, thing):
        self.assertIs(is_rule(thing), True, thing)

    def no(self, thing):
        self.assertIs(is_rule(thing), False, thing)

    def test_words_without_a_number(self):
        for word in PLAIN:
            self.yes((word,))
            for thing in [0, 1, -1, None, "", (), [], word]:
                self.no((word, thing))
            self.no((word, word, word))

    def test_words_with_a_number(self):
        for word in NUMBERED:
            for number in [0, 1, -1, 9, -10, 10 ** 9, -(10 ** 40)]:
                self.yes((word, number))
            self.no((word,))
            for thing in [True, False, None, "", "1", (), (1,), [], [1], word]:
                self.no((word, thing))
            self.no((word, 1, 1))
            self.no((word, 1, None))

    def test_lists_in_the_place_of_tuples(self):
        for word in PLAIN:
            self.no([word])
        for word in NUMBERED:
            self.no([word, 1])

    def test_a_thing_in_the_place_of_the_word(self):
        for thing in [("same",), ["same"], (), [], [[]], 0, 1, True, None, "", "Same", "same ", "add", "number", "name"]:
            self.no((thing,))
            self.no((thing, 1))

    def test_things_that_are_no_tuples(self):
        for thing in ["same", "times", "", 0, 1, -1, True, False, None, [], ["in"], (), ((),), "in"]:
            self.no(thing)


class Needs(unittest.TestCase):
    def test_needs(self):
        for word, many in PLAIN.items():
            self.assertEqual(needs((word,)), many)
        for word, many in NUMBERED.items():
            for number in [0, 3, -3]:
                self.assertEqual(needs((word, number)), many)


class MadeBy(unittest.TestCase):
    def made(self, rule, things, thing):
        told = made_by(rule, things)
        self.assertEqual(told, thing, (rule, things))
        self.assertIs(type(told), int)

    def test_of_one(self):
        for thing in [0, 1, -1, 7, -1000000, 10 ** 30]:
            self.made(("same",), (thing,), thing)
            self.made(("out",), (thing,), thing)
            for number in [0, 1, -1, 9, -9, 10 ** 12]:
                self.made(("times", number), (thing,), number * thing)

    def test_of_none(self):
        for number in [0, 1, -1, 1000000, -(10 ** 20)]:
            self.made(("always", number), (), number)

    def test_of_two(self):
        things = [(3, 5), (5, 3), (4, 4), (-3, 5), (3, -5), (-3, -5), (-5, -3), (-4, -4), (0, 0), (0, -1), (-1, 0)]
        for one, other in things:
            self.made(("sum",), (one, other), one + other)
            self.made(("gap",), (one, other), one - other)
            self.made(("below",), (one, other), 1 if one < other else 0)
            self.made(("most",), (one, other), one if one >= other else other)
            self.made(("least",), (one, other), one if one <= other else other)

    def test_pick(self):
        for ahead, thing in [(0, 8), (1, 6), (-1, 6), (2, 6), (-2, 6), (10 ** 9, 6)]:
            self.made(("pick",), (ahead, 6, 8), thing)
        self.made(("pick",), (0, 0, -5), -5)
        self.made(("pick",), (1, -5, 0), -5)
        self.made(("pick",), (0, 4, 4), 4)
