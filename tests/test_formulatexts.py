import unittest

from beltshift.errors import NoText
from beltshift.formulatexts import read_formulas
from tests.samples import raised

A, B, C = ("name", "a", 0), ("name", "b", 0), ("name", "c", 0)


def number(many):
    return ("number", many)


class Read(unittest.TestCase):
    def tree(self, text, tree):
        self.assertEqual(read_formulas(f"in\nx = {text}\nout"), ((), (), (("x", tree),), ()), text)

    def test_small_parts(self):
        self.tree("a", A)
        self.tree("abcdef", ("name", "abcdef", 0))
        for many in [0, 1, -1, 999999999, -999999999]:
            self.tree(str(many), number(many))
        for ago in [1, 2, 6, 999999999]:
            self.tree(f"a @ {ago}", ("name", "a", ago))
        self.tree("most ( a , b )", ("most", A, B))
        self.tree("least ( 1 , b @ 2 )", ("least", number(1), ("name", "b", 2)))
        self.tree("most ( least ( a , b ) , a < b )", ("most", ("least", A, B), ("below", A, B)))
        self.tree("least ( if a then b else c , a + b )", ("least", ("pick", A, B, C), ("sum", A, B)))

    def test_brackets(self):
        self.tree("( a )", A)
        self.tree("( ( ( 5 ) ) )", number(5))
        self.tree("( a < b )", ("below", A, B))
        self.tree("( a ) + ( b )", ("sum", A, B))
        self.tree("( if a then b else c ) + 1", ("sum", ("pick", A, B, C), number(1)))
        self.tree("a - ( b - c )", ("gap", A, ("gap", B, C)))
        self.tree("( a < b ) < c", ("below", ("below", A, B), C))
        self.tree("( " * 18 + "a" + " )" * 18, A)

    def test_times(self):
        self.tree("3 * a", ("times", 3, A))
        self.tree("-3 * a @ 2", ("times", -3, ("name", "a", 2)))
        self.tree("0 * 4", ("times", 0, number(4)))
        self.tree("2 * -4", ("times", 2, number(-4)))
        self.tree("999999999 * ( a + b )", ("times", 999999999, ("sum", A, B)))
        self.tree("2 * ( 3 * a )", ("times", 2, ("times", 3, A)))
        self.tree("2 * most ( a , b )", ("times", 2, ("most", A, B)))
        self.tree("2 * a + 3 * b", ("sum", ("times", 2, A), ("times", 3, B)))

    def test_sums_from_the_first_on(self):
        self.tree("a + b", ("sum", A, B))
        self.tree("a - b", ("gap", A, B))
        self.tree("a - b - c", ("gap", ("gap", A, B), C))
        self.tree("a - b + c", ("sum", ("gap", A, B), C))
        self.tree("a + b - c + 1", ("sum", ("gap", ("sum", A, B), C), number(1)))
        self.tree("a - -3", ("gap", A, number(-3)))
        self.tree("-3 - a", ("gap", number(-3), A))
        self.tree("2 - 3 * a", ("gap", number(2), ("times", 3, A)))

    def test_below(self):
        self.tree("a < b", ("below", A, B))
        self.tree("a + 1 < b - c", ("below", ("sum", A, number(1)), ("gap", B, C)))
        self.tree("2 * a < 3", ("below", ("times", 2, A), number(3)))

    def test_pick(self):
        self.tree("if a then b else c", ("pick", A, B, C))
        self.tree("if a < b then a + b else c < 1", ("pick", ("below", A, B), ("sum", A, B), ("below", C, number(1))))
        inner = ("pick", A, B, C)
        self.tree("if if a then b else c then b else c", ("pick", inner, B, C))
        self.tree("if a then if a then b else c else c", ("pick", A, inner, C))
        self.tree("if a then b else if a then b else c", ("pick", A, B, inner))
        self.tree("if a then b else c + 1", ("pick", A, B, ("sum", C, number(1))))

    def test_rows(self):
        self.assertEqual(read_formulas("in\nout"), ((), (), (), ()))
        self.assertEqual(read_formulas("in a b\nout b a b"), (("a", "b"), (), (), ("b", "a", "b")))
        text = "in a\nx = a\nwas x : 1 -2 0\ny = x\nwas a :\nwas y : 7\nout y x"
        was = (("x", (1, -2, 0)), ("a", ()), ("y", (7,)))
        rules = (("x", A), ("y", ("name", "x", 0)))
        self.assertEqual(read_formulas(text), (("a",), was, rules, ("y", "x")))

    def test_things(self):
        text = "in\nwas a : 0 999999999 -999999999\nout"
        self.assertEqual(read_formulas(text), ((), (("a", (0, 999999999, -999999999)),), (), ()))

    def test_forty_words(self):
        many = " ".join(["a"] * 39)
        self.assertEqual(read_formulas(f"in {many}\nout {many}"), (("a",) * 39, (), (), ("a",) * 39))
        things = " ".join(["1"] * 37)
        self.assertEqual(read_formulas(f"in\nwas a : {things}\nout"), ((), (("a", (1,) * 37),), (), ()))
        tree = A
        for turn in range(18):
            tree = ("sum", tree, A)
        self.tree("a" + " + a" * 18, tree)
        tree = C
        for turn in range(16):
            tree = ("sum", tree, A)
        row = "x = if a then b else c" + " + a" * 16
        self.assertEqual(len(row.split(" ")), 40)
        self.tree(row[4:], ("pick", A, B, tree))

    def test_not_looked_at(self):
        text = "in a a\nwas z : 1\nwas z : 2\na = q\na = a\nout lost"
        rules = (("a", ("name", "q", 0)), ("a", A))
        self.assertEqual(read_formulas(text), (("a", "a"), (("z", (1,)), ("z", (2,))), rules, ("lost",)))

    def test_many_rows(self):
        rows = ["a = a"] * 600
        self.assertEqual(read_formulas("in\n" + "\n".join(rows) + "\nout"), ((), (), (("a", A),) * 600, ()))

    def test_kinds(self):
        told = read_formulas("in a\nwas a : 1\nb = a @ 1\nout b")
        for part in told + told[1] + told[2] + (told[1][0][1], told[2][0][1]):
            self.assertIs(type(part), tuple)
        self.assertIs(type(told[1][0][1][0]), int)
        self.assertIs(type(told[2][0][1][2]), int)


class Refused(unittest.TestCase):
    def refused(self, row, text):
        error = raised(NoText, read_formulas, text)
        self.assertEqual(error.row, row, text)
        self.assertIs(type(error.row), int)

    def wrong_between(self, row):
        """A row that is none between the first and the last one."""
        self.refused(1, f"in a\n{row}\nout a")
        self.refused(2, f"in a\nx = a\n{row}\nodd odd\nout a")
        self.refused(1, f"in a\n{row}\nodd")

    def wrong_tree(self, text):
        self.wrong_between(f"x = {text}")

    def test_in_and_out_elsewhere_or_left_out(self):
        self.refused(0, "out a\nin a")
        self.refused(0, "x = 1\nout")
        self.refused(0, "was x : 1\nout")
        self.refused(1, "in a\nin a\nout a")
        self.refused(1, "in a\nout a\nout a")
        self.refused(1, "in a\nx = a")
        self.refused(1, "in a\nin a")
        self.refused(2, "in a\nx = a\nwas x : 1")
        self.refused(2, "in a\nx = a\ny = a")
        self.refused(1, "in a\nout a\nx = a")
        self.refused(1, "in a\nodd\nx = a")
        for row in ["in", "out", "in a", "out a", "in = a", "out = a", "was = a"]:
            self.wrong_between(row)

    def test_one_row_alone(self):
        for text in ["", " ", "in", "in a", "out", "out a", "x = 1", "was x : 1", "odd"]:
            self.refused(0, text)

    def test_taken_words_and_others_as_names(self):
        for word in ["in", "out", "was", "if", "then", "else", "most", "least", "A", "a1", "abcdefg", "1", "=", ":", "-a"]:
            self.refused(0, f"in {word}\nout")
            self.refused(0, f"in a {word} b\nout")
            self.refused(1, f"in\nout {word}")
            self.refused(1, f"in\nout a {word} b")
            self.wrong_between(f"{word} = a")
            self.wrong_between(f"was {word} : 1")
            if word != "1":
                self.wrong_tree(word)
                self.wrong_tree(f"a + {word}")
            self.wrong_tree(f"{word} @ 1")

    def test_forty_one_words(self):
        many = " ".join(["a"] * 40)
        self.refused(0, f"in {many}\nout")
        self.refused(1, f"in\nout {many}")
        self.wrong_between("was a : " + " ".join(["1"] * 38))
        self.wrong_tree("a" + " + a" * 19)
        self.wrong_tree("2 * a" + " + a" * 18)
        self.wrong_tree("if a then b else c" + " + a" * 17)
        self.wrong_tree("( " * 19 + "a" + " )" * 19)
        self.wrong_tree("( " * 1000 + "a")
        self.wrong_tree("if " * 1000 + "a")

    def test_blanks_and_line_feeds(self):
        for row in ["in a", "in"]:
            for wrong in [" " + row, row + " ", row + "  ", row.replace(" ", "  ") + " ", row + "\t"]:
                self.refused(0, f"{wrong}\nout")
                self.refused(1, "in\n" + wrong.replace("in", "out"))
        for row in ["x = a + b", "was x : 1 2", "x = a @ 1", "x = most ( a , b )", "was x :"]:
            self.wrong_between(" " + row)
            self.wrong_between(row + " ")
            for at, sign in enumerate(row):
                if sign == " ":
                    self.wrong_between(row[:at] + " " + row[at:])
                    self.wrong_between(row[:at] + "\t" + row[at + 1:])
        self.refused(0, "\nin\nout")
        self.refused(2, "in\nx = 1\nout\n")
        self.refused(1, "in\nout\n")
        self.refused(2, "in\nx = 1\n\nout")
        self.refused(1, "in\n\nout")
        self.refused(0, "in\r\nout")

    def test_glued(self):
        for text in ["a+b", "a +b", "a+ b", "2*a", "2 *a", "a@1", "a @1", "(a)", "( a)", "(a )", "a<b", "most (a , b )"]:
            self.wrong_tree(text)
        for row in ["x=a", "x =a", "x= a", "was x: 1", "was x :1", "wasx : 1", "x", "x =", "= a", "x a", "x : a", "x == a"]:
            self.wrong_between(row)

    def test_was(self):
        for row in ["was", "was x", "was : 1", "was x 1", "was x = 1", "was x : a", "was x : 1 a 1", "was x : :"]:
            self.wrong_between(row)
        for row in ["was x y : 1", "was x : 1 , 2", "Was x : 1", "was x : ( 1 )", "was x : 1 + 1", "was x : - 1"]:
            self.wrong_between(row)

    def test_numbers_ill_written(self):
        for text in ["01", "00", "-0", "1000000000", "-1000000000", "--1", "+1", "1.0", "- 1", "-"]:
            self.wrong_tree(text)
            self.wrong_tree(f"{text} * a")
            self.wrong_tree(f"a @ {text}")
            self.wrong_between(f"was x : {text}")

    def test_bells_ago(self):
        for text in ["a @ 0", "a @ -1", "a @", "a @ a", "a @ b", "1 @ 1", "( a ) @ 1", "a @ 1 @ 1", "@ 1", "a @ ( 1 )"]:
            self.wrong_tree(text)

    def test_brackets(self):
        for text in ["( a", "a )", "( )", "( a ) )", "( ( a )", "(", ")", ") a (", "( a , b )", "most ( a , b", "most ( a )"]:
            self.wrong_tree(text)
        for text in ["most a , b", "most ( a , b , c )", "most ( , b )", "most ( a , )", "least", "least (", "most ( a b )"]:
            self.wrong_tree(text)
        for text in ["max ( a , b )", "a ( b )", "most most ( a , b )", "( a b )", "most ( a < b < c , a )", "[ a ]"]:
            self.wrong_tree(text)

    def test_times(self):
        for text in ["a * 2", "a * b", "2 * 3 * a", "( 2 ) * a", "2 *", "* a", "2 * * a", "2 * if a then b else c"]:
            self.wrong_tree(text)
        for text in ["2 a", "a 2", "2 * a * b", "most ( a , b ) * 2", "a @ 2 * b", "2 - * a"]:
            self.wrong_tree(text)

    def test_sums_and_below(self):
        for text in ["a +", "+ a", "a + + b", "a - - b", "a b", "a < b < c", "a <", "< a", "a > b", "a <= b", "a + < b"]:
            self.wrong_tree(text)
        for text in ["a = b", "a < if a then b else c", "a + if a then b else c", "a , b", "a -1", "a - 1 -1"]:
            self.wrong_tree(text)

    def test_pick(self):
        for text in ["if", "if a", "if a then", "if a then b", "if a then b else", "if then b else c", "if a else b"]:
            self.wrong_tree(text)
        for text in ["if a then else c", "a then b else c", "if a then b else c else a", "if a b else c", "if ( a then b else c )"]:
            self.wrong_tree(text)
        for text in ["If a then b else c", "if a then b then c", "if a then b else c )", "if a then b else c then"]:
            self.wrong_tree(text)

    def test_words_behind_the_end(self):
        for text in ["a b", "a 1", "1 a", "1 1", "( a ) b", "most ( a , b ) c", "a < b c", "a @ 1 b", "a @ 1 2", "2 * a b"]:
            self.wrong_tree(text)

    def test_asked_again(self):
        for turn in range(2):
            self.refused(0, "odd")
            self.assertEqual(read_formulas("in\nout"), ((), (), (), ()))
