import copy
import random
import unittest

from beltshift.errors import NoFormula
from beltshift.formulas import look_formulas
from tests.samples import raised


def name(word, ago=0):
    return ("name", word, ago)


def number(many):
    return ("number", many)


class LookFormulas(unittest.TestCase):
    def let_by(self, ins=(), was=(), rules=(), outs=()):
        formulas = (ins, was, rules, outs)
        kept = copy.deepcopy(formulas)
        self.assertIs(look_formulas(formulas), True, formulas)
        self.assertEqual(formulas, kept)

    def refused(self, word, by, ins=(), was=(), rules=(), outs=()):
        formulas = (ins, was, rules, outs)
        error = raised(NoFormula, look_formulas, formulas)
        self.assertEqual((error.word, error.name), (word, by), formulas)

    def test_let_by(self):
        self.let_by()
        self.let_by(ins=("a", "b"))
        self.let_by(ins=("a",), outs=("a", "a"))
        self.let_by(rules=(("a", number(1)),))
        self.let_by(ins=("a",), was=(("a", ()), ("b", (1, 2))), rules=(("b", name("a")),), outs=("b", "a", "b"))
        self.let_by(rules=(("a", name("b")), ("b", number(2))), outs=("a",))

    def test_any_words_as_names(self):
        words = ("in", "out", "", "A b", "1", "sum", "name", "number", "if", "longer than six")
        self.let_by(ins=words, was=tuple((word, (0,)) for word in words), rules=(("x\ny", name("in")),), outs=words)
        self.refused("twice", "", ins=("", ""))
        self.refused("lost", "", ins=("a",), outs=("a", ""))
        self.refused("ring", "sum", rules=(("sum", name("sum")),))
        self.refused("lost", "name", ins=("a",), rules=(("b", ("sum", name("a"), name("name"))),))

    def test_twice(self):
        self.refused("twice", "a", ins=("a", "a"))
        self.refused("twice", "b", ins=("a", "b", "c", "b", "a"))
        self.refused("twice", "b", ins=("a", "b"), rules=(("c", number(1)), ("b", number(1)), ("a", number(1))))
        self.refused("twice", "c", rules=(("c", number(1)), ("d", number(1)), ("c", number(1)), ("d", number(2))))
        self.refused("twice", "b", ins=("a", "b", "b"), rules=(("a", number(1)),))
        self.let_by(ins=("a",), outs=("a", "a"))

    def test_again(self):
        self.refused("again", "a", ins=("a",), was=(("a", ()), ("a", (1,))))
        self.refused("again", "b", ins=("a", "b"), was=(("a", ()), ("b", ()), ("b", ()), ("a", ())))
        self.refused("again", "b", ins=("a", "b"), was=(("b", ()), ("a", ()), ("b", ()), ("a", ())))

    def test_lost_in_was(self):
        self.refused("lost", "b", ins=("a",), was=(("a", ()), ("b", ())))
        self.refused("lost", "c", was=(("c", ()), ("b", ())), rules=(("x", name("d")),), outs=("e",))

    def test_lost_in_trees(self):
        trees = [name("z"), name("z", 3)]
        for word in ["sum", "gap", "below", "most", "least"]:
            trees += [(word, name("z"), name("y")), (word, name("a"), name("z")), (word, name("z", 1), name("a"))]
        trees += [("pick", name("z"), name("y"), name("x")), ("pick", name("a"), name("z"), name("y"))]
        trees += [("pick", name("a"), number(1), name("z")), ("times", 3, name("z")), ("times", -1, ("times", 2, name("z")))]
        trees += [("sum", ("gap", name("a"), name("z")), name("y")), ("sum", ("gap", name("z"), name("y")), name("x"))]
        trees += [("most", name("a"), ("least", ("times", 2, name("z")), name("y")))]
        for tree in trees:
            self.refused("lost", "z", ins=("a",), rules=(("b", tree),), outs=("q",))
            self.refused("lost", "z", ins=("a",), rules=(("c", number(1)), ("b", tree), ("d", name("w"))))
            self.let_by(ins=("a", "x", "y", "z", "q"), rules=(("b", tree),), outs=("q",))
            self.let_by(ins=("a", "x", "y"), rules=(("b", tree), ("z", number(0))))

    def test_lost_in_outs(self):
        self.refused("lost", "c", ins=("a",), rules=(("b", name("a")),), outs=("a", "b", "c", "d"))
        self.refused("lost", "a", outs=("a",))

    def test_ring(self):
        for tree in [name("a"), ("sum", number(1), name("a")), ("times", 0, name("a"))]:
            self.refused("ring", "a", rules=(("a", tree),))
        self.refused("ring", "a", ins=("i",), rules=(("a", ("pick", name("i"), number(1), name("a"))),))

    def test_some_bells_ago_is_no_ring(self):
        for ago in (1, 2, 6):
            self.let_by(rules=(("a", name("a", ago)),))
            self.let_by(rules=(("a", name("b")), ("b", name("a", ago))))
            self.refused("ring", "a", rules=(("a", ("sum", name("a", ago), name("a"))),))
            self.refused("ring", "a", rules=(("a", ("sum", name("a"), name("a", ago))),))

    def test_ring_over_several_rules(self):
        ring = {"a": "b", "b": "c", "c": "d", "d": "a"}
        for words in ["abcd", "dcba", "bdac", "cadb"]:
            rules = tuple((word, ("sum", number(1), name(ring[word]))) for word in words)
            self.refused("ring", words[0], rules=rules)
            for cut in range(4):
                free = list(rules)
                free[cut] = (words[cut], name(ring[words[cut]], 1))
                self.let_by(rules=tuple(free))

    def test_what_leads_to_a_ring_or_hangs_below_it(self):
        rules = (("lead", name("a")), ("leaf", number(1)), ("b", ("sum", name("a"), name("leaf"))), ("a", name("b")))
        self.refused("ring", "b", rules=rules, outs=("lead",))
        self.refused("ring", "b", ins=("i",), rules=(("a", name("i")), ("b", name("b"))))

    def test_several_rings(self):
        rules = (("x", name("i")), ("c", name("c")), ("a", name("b")), ("b", name("a")))
        self.refused("ring", "c", ins=("i",), rules=rules)
        self.refused("ring", "b", ins=("i",), rules=rules[:1] + rules[3:] + rules[1:3])

    def test_names_that_come_in_are_no_ring(self):
        self.let_by(ins=("a",), rules=(("b", ("sum", name("a"), name("a"))), ("c", ("gap", name("b"), name("a")))))

    def test_which_comes_first(self):
        twice = dict(ins=("t", "t"))
        again = dict(was=(("g", ()), ("g", ())))
        ring = (("r", name("r")),)
        lost = (("x", name("l")),)
        self.refused("twice", "t", **twice, **again, rules=ring + lost, outs=("o",))
        self.refused("twice", "r", **again, rules=ring + ring + lost, outs=("o",))
        self.refused("again", "g", **again, rules=ring + lost, outs=("o",))
        self.refused("lost", "l", rules=ring + lost, outs=("o",))
        self.refused("lost", "o", rules=ring, outs=("o",))
        self.refused("lost", "w", was=(("w", ()),), rules=ring + lost, outs=("o",))
        self.refused("ring", "r", rules=ring, outs=("r",))

    def test_rings_by_chance(self):
        draw = random.Random(10)
        for turn in range(300):
            words = draw.sample("abcdefg", draw.randrange(1, 6))
            leans = {word: [(draw.choice(words), draw.choice([0, 0, 1])) for lean in range(draw.randrange(0, 3))]
                     for word in words}
            rules = []
            for word in words:
                tree = number(1)
                for leaned, ago in leans[word]:
                    tree = ("sum", tree, name(leaned, ago))
                rules.append((word, tree))
            reach = {word: {leaned for leaned, ago in leans[word] if ago == 0} for word in words}
            for step in words:
                for word in words:
                    for leaned in list(reach[word]):
                        reach[word] |= reach[leaned]
            rings = [word for word in words if word in reach[word]]
            if rings:
                self.refused("ring", rings[0], rules=tuple(rules))
            else:
                self.let_by(rules=tuple(rules))

    def test_deep_trees_and_many_rules(self):
        tree = name("a")
        for turn in range(3000):
            tree = ("sum", tree, number(1))
        self.assertIs(look_formulas((("a",), (), (("b", tree),), ("b",))), True)
        rules = tuple((f"n{k}", name(f"n{k + 1}")) for k in range(500)) + (("n500", number(1)),)
        self.let_by(rules=rules)

    def test_asked_again(self):
        for turn in range(2):
            self.refused("ring", "a", rules=(("a", name("a")),))
            self.let_by(ins=("a",))
