import copy
import unittest

from beltshift.formulatexts import read_formulas
from beltshift.maker import made_room
from beltshift.rooms import doors_in, doors_out, look_room
from beltshift.runs import run
from beltshift.saying import said
from tests.samples import drawn_formulas
from tests.test_saying import by_the_words, rows_for

WORDS = ("same", "sum", "gap", "below", "most", "least", "pick", "times", "always")
UNLIKE = (11, 12, 13, 14, 15, 16, 17, 18, 19)
NONE = (0,) * 9
TEXTS = [
    "in\nout",
    "in a b\nout",
    "in a\nout a",
    "in a b\nout b a b b",
    "in a b c\nx = a\nout x",
    "in\nx = 5\nout x x",
    "in\nx = 5\ny = -3\nout y",
    "in\nx = 5\nout",
    "in a\nx = a\ny = x\nz = y\nout z y x a",
    "in a\nz = y\ny = x\nx = a\nout z",
    "in a\nwas s : 10\ns = s @ 1 + a\nout s",
    "in\nwas f : 1 0\nf = f @ 1 + f @ 2\nout f",
    "in\nwas f : 7 8 9\nf = f @ 6\nout f",
    "in a\nwas a : 4 5\nx = a @ 1\ny = a @ 2\nz = a @ 3\nout x y z",
    "in a\nwas a :\nx = a @ 2\nout x",
    "in a\nwas x : 1 2 3 4 5 6 7\nx = a\ny = x @ 1 - x @ 6\nout y",
    "in a b c\nx = if a < b then most ( a , c ) else least ( b , 2 * c - 7 )\nout x",
    "in a b\nx = a - b\ny = b - a\nz = a < b\nu = b < a\nv = if a then b else 3\nout x y z u",
    "in a b\nx = a + a - ( a + a )\ny = -9 * ( -9 * b )\nout x y",
    "in a\np = q @ 1 + a\nq = r @ 2 - a\nr = p\nout p q r",
]


def parts_of(tree):
    return 1 + sum(parts_of(branch) for branch in tree[1:] if isinstance(branch, tuple))


class MadeRoom(unittest.TestCase):
    def look(self, formulas, moments, rows):
        kept = copy.deepcopy((formulas, moments))
        room = made_room(formulas, moments)
        self.assertEqual((formulas, moments), kept)
        self.assertEqual(room, made_room(formulas, moments))
        self.assertIs(look_room(room), True)
        ins, was, rules, outs = formulas
        self.assertEqual(len(doors_in(room)), len(ins))
        self.assertEqual(len(doors_out(room)), len(outs))
        for rule, spent in room[0]:
            self.assertEqual(spent, dict(zip(WORDS, moments)).get(rule[0], 0))
        most = 2 * sum(parts_of(tree) for name, tree in rules) + len(rules) + len(ins) + len(outs)
        self.assertLessEqual(len(room[0]), most)
        told = run(room, rows)
        self.assertEqual(told, said(formulas, rows))
        self.assertEqual(told, by_the_words(formulas, rows))

    def test_written_out(self):
        for text in TEXTS:
            formulas = read_formulas(text)
            for many in (0, 1, 2, 12):
                for moments in (NONE, UNLIKE):
                    self.look(formulas, moments, rows_for(formulas, many, many))

    def test_each_word(self):
        for tree in ["4", "a", "a @ 2", "a + b", "a - b", "a < b", "most ( a , b )", "least ( a , b )",
                     "if a then b else c", "-4 * b", "if c < 0 then a else b @ 1", "3 * ( a - 2 )"]:
            formulas = read_formulas(f"in a b c\nwas b : 6\nx = {tree}\nout x")
            self.look(formulas, UNLIKE, rows_for(formulas, 30, 3))

    def test_by_chance(self):
        for seed, formulas in enumerate(drawn_formulas(300, 32)):
            self.look(formulas, UNLIKE, rows_for(formulas, seed % 15, seed))

    def test_moments(self):
        formulas = read_formulas(
            "in a b\nx = a\ny = a + b - 2 * a\nz = a < b\nu = most ( a , least ( b , 3 ) )\nv = if a then b else a\nout x"
        )
        spent = {(rule[0], moments) for rule, moments in made_room(formulas, UNLIKE)[0]}
        self.assertEqual(spent, set(zip(WORDS, UNLIKE)) | {("in", 0), ("out", 0)})
        self.assertEqual({moments for rule, moments in made_room(formulas, NONE)[0]}, {0})

    def test_doors_in_their_order(self):
        formulas = read_formulas("in a b c\nx = c\nout b x a")
        self.assertEqual(run(made_room(formulas, NONE), [(1, 2, 3), (4, 5, 6)]), [(2, 3, 1), (5, 6, 4)])

    def test_deep_trees(self):
        tree = ("name", "a", 0)
        for turn in range(1200):
            tree = ("sum", tree, ("number", 1))
        room = made_room((("a",), (), (("b", tree),), ("b",)), NONE)
        self.assertEqual(len(room[0]), 2402)
