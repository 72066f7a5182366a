"""Trees: what the rules of formulas are made of."""


def tree_parts(tree):
    """A list of all parts of a tree, from left to right, each behind its branches."""
    found = []
    left = [tree]
    # Without recursion, since a tree may be deeper than calls may be.
    while left:
        part = left.pop()
        found.append(part)
        left.extend([branch for branch in part[1:] if isinstance(branch, tuple)])
    # Found from right to left, each ahead of its branches.
    return found[::-1]


def leanings(tree):
    """A list of (name, bells ago), from left to right, on which a tree leans."""
    return [(part[1], part[2]) for part in tree_parts(tree) if part[0] == "name"]


def part_rule(part):
    """The rule by which a part makes its thing of those of its branches; a name makes what it is handed."""
    word = part[0]
    if word == "name":
        return ("same",)
    if word == "number":
        return ("always", part[1])
    if word == "times":
        return ("times", part[1])
    return (word,)
