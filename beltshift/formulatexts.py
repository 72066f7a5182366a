"""Formulas as texts."""

from beltshift.errors import NoText
from beltshift.words import is_name, number_of

MOST_WORDS = 40
SIGNS = {"+": "sum", "-": "gap"}


def read_formulas(text):
    """The formulas that a text writes, not looked at; else NoText."""
    rows = [row.split(" ") for row in text.split("\n")]
    last = len(rows) - 1
    ins = names_behind("in", Reader(rows[0], 0))
    was = []
    rules = []
    for number in range(1, last):
        reader = Reader(rows[number], number)
        if reader.ahead() == "was":
            was.append(was_row(reader))
        else:
            rules.append(rule_row(reader))
    # Of a text of one row this reads that row again, as one of out, and so refuses it.
    outs = names_behind("out", Reader(rows[last], last))
    return (ins, tuple(was), tuple(rules), outs)


class Reader:
    """The words of one row, read one by one; where they do not fit, the row's number is refused."""

    def __init__(self, words, row):
        if len(words) > MOST_WORDS:
            raise NoText(row)
        self.words = words
        self.row = row
        self.at = 0

    def over(self):
        """Whether all words are read."""
        return self.at >= len(self.words)

    def ahead(self):
        """The word that is read next; one without signs, which fits nowhere, behind the end."""
        return "" if self.over() else self.words[self.at]

    def take(self):
        """The word ahead, which then is read."""
        word = self.ahead()
        self.at += 1
        return word

    def take_just(self, word):
        """Takes the word ahead, which must be this one."""
        if self.take() != word:
            raise NoText(self.row)

    def take_name(self):
        """Takes the word ahead, which must be a name."""
        word = self.take()
        if not is_name(word):
            raise NoText(self.row)
        return word

    def take_number(self):
        """The number that the word ahead must write."""
        number = number_of(self.take())
        if number is None:
            raise NoText(self.row)
        return number

    def end(self):
        """Refuses words that are left."""
        if not self.over():
            raise NoText(self.row)


def names_behind(word, reader):
    """A tuple of the names in a row that begins with this word."""
    reader.take_just(word)
    names = []
    while not reader.over():
        names.append(reader.take_name())
    return tuple(names)


def was_row(reader):
    """The name and the tuple of things of a row of was."""
    reader.take_just("was")
    name = reader.take_name()
    reader.take_just(":")
    things = []
    while not reader.over():
        things.append(reader.take_number())
    return (name, tuple(things))


def rule_row(reader):
    """The name and the tree of a rule's row."""
    name = reader.take_name()
    reader.take_just("=")
    tree = whole_tree(reader)
    reader.end()
    return (name, tree)


def whole_tree(reader):
    """The tree of an E."""
    if reader.ahead() == "if":
        return pick_tree(reader)
    one = sum_tree(reader)
    if reader.ahead() != "<":
        return one
    reader.take_just("<")
    return ("below", one, sum_tree(reader))


def pick_tree(reader):
    """The tree of an if."""
    reader.take_just("if")
    test = whole_tree(reader)
    reader.take_just("then")
    one = whole_tree(reader)
    reader.take_just("else")
    return ("pick", test, one, whole_tree(reader))


def sum_tree(reader):
    """The tree of an S."""
    tree = times_tree(reader)
    while reader.ahead() in SIGNS:
        word = SIGNS[reader.take()]
        tree = (word, tree, times_tree(reader))
    return tree


def times_tree(reader):
    """The tree of a T."""
    # Asked of the word, not of the tree: a number in brackets is no K.
    many = number_of(reader.ahead())
    tree = small_tree(reader)
    if many is None or reader.ahead() != "*":
        return tree
    reader.take_just("*")
    return ("times", many, small_tree(reader))


def small_tree(reader):
    """The tree of a P."""
    word = reader.ahead()
    if word == "(":
        return bracket_tree(reader)
    if word in ("most", "least"):
        return two_tree(reader)
    if number_of(word) is not None:
        return ("number", reader.take_number())
    name = reader.take_name()
    return ("name", name, bells_ago(reader))


def bracket_tree(reader):
    """The tree of an E in brackets."""
    reader.take_just("(")
    tree = whole_tree(reader)
    reader.take_just(")")
    return tree


def two_tree(reader):
    """The tree of a most or a least."""
    word = reader.take()
    reader.take_just("(")
    one = whole_tree(reader)
    reader.take_just(",")
    other = whole_tree(reader)
    reader.take_just(")")
    return (word, one, other)


def bells_ago(reader):
    """How many bells ago a name is asked for."""
    if reader.ahead() != "@":
        return 0
    reader.take_just("@")
    bells = reader.take_number()
    if bells < 1:
        raise NoText(reader.row)
    return bells
