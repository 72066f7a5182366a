"""What formulas say, bell by bell."""

from beltshift.rules import made_by, needs
from beltshift.trees import leanings, part_rule, tree_parts


def said(formulas, rows):
    """A list of what the outs are at each bell, a tuple each."""
    ins, was, rules, outs = formulas
    before = dict(was)
    plan = [(name, tree_parts(tree)) for name, tree in rule_order(rules)]
    since = {name: [] for name in list(ins) + [name for name, tree in rules]}
    told = []
    for bell, things in enumerate(rows):
        for name, thing in zip(ins, things):
            since[name].append(thing)
        for name, parts in plan:
            since[name].append(tree_thing(parts, since, before, bell))
        told.append(tuple([since[name][bell] for name in outs]))
    return told


def rule_order(rules):
    """The rules, each behind those on which it hangs at the same bell."""
    order = []
    left = list(rules)
    while left:
        waiting = [name for name, tree in left]
        free = [(name, tree) for name, tree in left if not hangs_on(tree, waiting)]
        order.extend(free)
        done = [name for name, tree in free]
        left = [(name, tree) for name, tree in left if name not in done]
    return order


def hangs_on(tree, names):
    """Whether a tree leans on one of these names at the same bell."""
    return any(ago == 0 and name in names for name, ago in leanings(tree))


def tree_thing(parts, since, before, bell):
    """What a tree, told by its parts, each behind its branches, makes at a bell."""
    made = []
    for part in parts:
        if part[0] == "name":
            name = part[1]
            made.append(thing_at(since[name], before.get(name, ()), bell - part[2]))
        else:
            rule = part_rule(part)
            first = len(made) - needs(rule)
            taken = tuple(made[first:])
            made[first:] = [made_by(rule, taken)]
    return made[0]


def thing_at(since, before, bell):
    """What a name is at a bell: since from bell 0 on; ahead of it before, the latest first, then 0."""
    if bell >= 0:
        return since[bell]
    ahead = -1 - bell
    return before[ahead] if ahead < len(before) else 0
