import copy
import random
import unittest

from beltshift.formulatexts import read_formulas
from beltshift.saying import said
from tests.samples import drawn_formulas


def name_at(formulas, rows, name, bell, known):
    """What a name is at a bell, as the document's words have it, bell by bell backwards."""
    ins, was, rules, outs = formulas
    if bell < 0:
        things = [0] * -bell
        for word, before in was:
            if word == name:
                things = list(before) + things
        return things[-bell - 1]
    if name in ins:
        return rows[bell][ins.index(name)]
    if (name, bell) not in known:
        known[name, bell] = tree_at(formulas, rows, dict(rules)[name], bell, known)
    return known[name, bell]


def tree_at(formulas, rows, tree, bell, known):
    if tree[0] == "number":
        return tree[1]
    if tree[0] == "name":
        return name_at(formulas, rows, tree[1], bell - tree[2], known)
    if tree[0] == "times":
        return tree[1] * tree_at(formulas, rows, tree[2], bell, known)
    made = [tree_at(formulas, rows, branch, bell, known) for branch in tree[1:]]
    if tree[0] == "pick":
        return made[2] if made[0] == 0 else made[1]
    one, other = made
    table = {"sum": one + other, "gap": one - other, "below": int(one < other), "most": max(made), "least": min(made)}
    return table[tree[0]]


def by_the_words(formulas, rows):
    known = {}
    outs = formulas[3]
    return [tuple(name_at(formulas, rows, name, bell, known) for name in outs) for bell in range(len(rows))]


def rows_for(formulas, many, seed):
    draw = random.Random(seed)
    return [tuple(draw.randrange(-9, 10) for name in formulas[0]) for bell in range(many)]


class Said(unittest.TestCase):
    def told(self, text, rows, out):
        formulas = read_formulas(text)
        kept = copy.deepcopy((formulas, rows))
        self.assertEqual(said(formulas, rows), out)
        self.assertEqual(said(formulas, tuple(rows)), out)
        self.assertEqual((formulas, rows), kept)

    def told_last(self, tree, things, thing):
        """What a tree over a, b, c makes."""
        self.told(f"in a b c\nx = {tree}\nout x", [things], [(thing,)])

    def test_each_word(self):
        self.told_last("7", (1, 2, 3), 7)
        self.told_last("-7", (1, 2, 3), -7)
        self.told_last("b", (1, 2, 3), 2)
        self.told_last("a + b", (1, 2, 3), 3)
        self.told_last("a - b", (1, 2, 3), -1)
        self.told_last("a - b - c", (1, 2, 3), -4)
        self.told_last("a - ( b - c )", (1, 2, 3), 2)
        for things, thing in [((1, 2, 0), 1), ((2, 1, 0), 0), ((2, 2, 0), 0), ((-2, -1, 0), 1)]:
            self.told_last("a < b", things, thing)
        for things in [(1, 2, 0), (2, 1, 0), (2, 2, 0), (-3, 2, 0)]:
            self.told_last("most ( a , b )", things, max(things[:2]))
            self.told_last("least ( a , b )", things, min(things[:2]))
        for test, thing in [(0, 8), (1, 5), (-1, 5), (2, 5)]:
            self.told_last("if a then b else c", (test, 5, 8), thing)
        self.told_last("-3 * b", (1, 2, 3), -6)
        self.told_last("0 * b", (1, 2, 3), 0)
        self.told_last("2 * ( a + most ( 4 * b , if c then 1 else 9 ) )", (1, 2, 3), 18)

    def test_some_bells_ago(self):
        came = [(1,), (2,), (3,), (4,), (5,), (6,), (7,), (8,)]
        for ago in range(7):
            tree = f"a @ {ago}" if ago else "a"
            out = [(bell + 1 - ago if bell >= ago else 0,) for bell in range(8)]
            self.told(f"in a\nx = {tree}\nout x", came, out)

    def test_was(self):
        came = [(1,), (2,), (3,), (4,), (5,), (6,), (7,), (8,)]
        for many in range(8):
            before = [10 * thing for thing in range(1, many + 1)]
            words = "".join(f" {thing}" for thing in before)
            for ago in range(1, 7):
                ahead = (before + [0] * 9)[:ago][::-1]
                out = [(thing,) for thing in (ahead + list(range(1, 9)))[:8]]
                self.told(f"in a\nwas a :{words}\nx = a @ {ago}\nout x", came, out)
                rule = f"in a\nwas y :{words}\nx = y @ {ago}\ny = a\nout x"
                self.told(rule, came, out)

    def test_was_of_itself(self):
        self.told("in a\nwas s : 10\ns = s @ 1 + a\nout s", [(1,), (2,), (3,)], [(11,), (13,), (16,)])
        self.told("in\nwas f : 1 0\nf = f @ 1 + f @ 2\nout f", [()] * 6, [(1,), (2,), (3,), (5,), (8,), (13,)])
        self.told("in\nf = f @ 1 + 1\nout f", [()] * 3, [(1,), (2,), (3,)])

    def test_rules_in_any_order(self):
        rows = [(1,), (2,), (3,)]
        out = [(4, 12, 2), (6, 18, 4), (8, 24, 6)]
        rules = ["x = 2 * a", "y = x + 2", "z = 3 * y"]
        for order in [(0, 1, 2), (0, 2, 1), (1, 0, 2), (1, 2, 0), (2, 0, 1), (2, 1, 0)]:
            text = "\n".join(rules[number] for number in order)
            self.told(f"in a\n{text}\nout y z x", rows, out)

    def test_what_may_lack(self):
        self.told("in\nout", [(), ()], [(), ()])
        self.told("in a b\nout", [(1, 2), (3, 4)], [(), ()])
        self.told("in a b\nout b a b b", [(1, 2), (3, 4)], [(2, 1, 2, 2), (4, 3, 4, 4)])
        self.told("in a\nx = a\nout x x", [(1,), (3,)], [(1, 1), (3, 3)])
        self.told("in\nx = 5\nout x", [(), ()], [(5,), (5,)])
        for text in ["in\nout", "in a\nout a", "in a\nwas s : 10\ns = s @ 1 + a\nout s"]:
            self.told(text, [], [])

    def test_any_words_as_names(self):
        formulas = (("in", "", "A b"), (("", (4,)),), (("sum", ("gap", ("name", "", 1), ("name", "A b", 0))),), ("sum",))
        self.assertEqual(said(formulas, [(1, 2, 3), (4, 5, 6)]), [(1,), (-4,)])

    def test_as_the_words_have_it(self):
        for seed, formulas in enumerate(drawn_formulas(300, 31)):
            rows = rows_for(formulas, seed % 13, seed)
            out = said(formulas, rows)
            self.assertEqual(out, by_the_words(formulas, rows))
            self.assertEqual(out, said(formulas, tuple(rows)))
            for bells in range(len(rows)):
                self.assertEqual(said(formulas, rows[:bells]), out[:bells])
            self.assertIs(type(out), list)
            for row in out:
                self.assertIs(type(row), tuple)
                self.assertTrue(all(type(thing) is int for thing in row))

    def test_told_anew(self):
        formulas = read_formulas("in a\nwas s : 10\ns = s @ 1 + a\nout s")
        rows = [(1,), (2,)]
        first = said(formulas, rows)
        first.clear()
        rows.append((3,))
        self.assertEqual(said(formulas, rows[:2]), [(11,), (13,)])
        self.assertEqual(rows, [(1,), (2,), (3,)])

    def test_deep_trees_and_many_rules(self):
        tree = ("name", "a", 0)
        for turn in range(3000):
            tree = ("sum", tree, ("number", 1))
        self.assertEqual(said((("a",), (), (("b", tree),), ("b",)), [(5,)]), [(3005,)])
        rules = tuple((f"n{k}", ("sum", ("number", 1), ("name", f"n{k + 1}", 0))) for k in range(300))
        self.assertEqual(said(((), (), rules + (("n300", ("number", 0)),), ("n0",)), [()]), [(300,)])
