"""Formulas: names, each told by a rule that leans on what names are, or were some bells ago."""

from beltshift.errors import NoFormula
from beltshift.rings import first_on_ring
from beltshift.trees import leanings


def look_formulas(formulas):
    """True of formulas that go together; else NoFormula."""
    ins, was, rules, outs = formulas
    told = list(ins) + [name for name, tree in rules]
    refuse_formula("twice", first_again(told))
    refuse_formula("again", first_again([name for name, things in was]))
    refuse_formula("lost", first_lost(formulas, told))
    refuse_formula("ring", rule_on_ring(rules))
    return True


def refuse_formula(word, name):
    """Raises NoFormula, unless name is None."""
    if name is not None:
        raise NoFormula(word, name)


def first_again(names):
    """The first name that stood ahead; or None."""
    seen = set()
    for name in names:
        if name in seen:
            return name
        seen.add(name)
    return None


def first_lost(formulas, told):
    """The first name, along was, the trees and outs, that is not among those told; or None."""
    ins, was, rules, outs = formulas
    names = [name for name, things in was]
    for rule, tree in rules:
        names.extend([name for name, ago in leanings(tree)])
    names.extend(list(outs))
    known = set(told)
    for name in names:
        if name not in known:
            return name
    return None


def rule_on_ring(rules):
    """The name of the first rule that hangs on itself at one bell; or None."""
    steps = {rule: [] for rule, tree in rules}
    for rule, tree in rules:
        steps[rule].extend([name for name, ago in leanings(tree) if ago == 0 and name in steps])
    return first_on_ring(list(steps), steps)
