"""Rooms made of formulas."""

from beltshift.rooms import IN_RULE, OUT_RULE
from beltshift.rules import needs
from beltshift.saying import thing_at
from beltshift.trees import part_rule, tree_parts

WORDS = ("same", "sum", "gap", "below", "most", "least", "pick", "times", "always")


def made_room(formulas, moments):
    """A room that tells what the formulas say; moments of a tuple of nine, in the order of WORDS."""
    ins, was, rules, outs = formulas
    making = Making(formulas, moments)
    for name, tree in rules:
        making.put_rule(name, tree)
    for name in outs:
        making.put_hand(OUT_RULE, [(making.homes[name], ())])
    return (tuple(making.hands), tuple(making.belts))


class Making:
    """A room in the making: first the in doors, then a hand for each rule, then what else is put there.

    A source is (hand, things): from where a belt is to come, and what is to lie on it.
    """

    def __init__(self, formulas, moments):
        ins, was, rules, outs = formulas
        names = list(ins) + [name for name, tree in rules]
        self.moments = dict(zip(WORDS, moments))
        self.before = dict(was)
        self.homes = {name: number for number, name in enumerate(names)}
        self.hands = [(IN_RULE, 0)] * len(names)
        self.belts = []

    def put_rule(self, name, tree):
        """Puts the hands of a tree there, that of its root in the place kept for the name."""
        parts = tree_parts(tree)
        sources = []
        for part in parts[:-1]:
            if part[0] == "name":
                sources.append(self.source_of(part))
            else:
                taken = taken_sources(sources, part)
                sources.append((self.put_hand(part_rule(part), taken), ()))
        root = parts[-1]
        if root[0] == "name":
            sources.append(self.source_of(root))
        self.settle(self.homes[name], part_rule(root), sources)

    def source_of(self, part):
        """The source of a name some bells ago: as many trays, with what the name was ahead of the first bell."""
        word, name, ago = part
        before = self.before.get(name, ())
        return (self.homes[name], tuple([thing_at((), before, bell) for bell in range(-ago, 0)]))

    def put_hand(self, rule, sources):
        """The number of a hand that is put behind the others."""
        number = len(self.hands)
        self.hands.append(None)
        self.settle(number, rule, sources)
        return number

    def settle(self, number, rule, sources):
        """Makes the hand of a number one with this rule that takes from these sources, in order."""
        self.hands[number] = (rule, self.moments.get(rule[0], 0))
        self.belts.extend([(giver, number, things) for giver, things in sources])


def taken_sources(sources, part):
    """Takes the last sources away, one for each branch of a part, and tells them."""
    first = len(sources) - needs(part_rule(part))
    taken = sources[first:]
    del sources[first:]
    return taken
