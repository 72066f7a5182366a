"""Rules: what a hand makes of the things that it takes."""

from beltshift.words import is_whole

NEEDS = {
    "same": 1,
    "sum": 2,
    "gap": 2,
    "below": 2,
    "most": 2,
    "least": 2,
    "pick": 3,
    "times": 1,
    "always": 0,
    "in": 0,
    "out": 1,
}
WITH_NUMBER = ("times", "always")


def is_rule(thing):
    """Whether a thing is a rule."""
    if not isinstance(thing, tuple) or len(thing) < 1:
        return False
    word = thing[0]
    # Asked ahead of the table: a list in the word's place could not be looked up there.
    if not isinstance(word, str) or word not in NEEDS:
        return False
    if word in WITH_NUMBER:
        return len(thing) == 2 and is_whole(thing[1])
    return len(thing) == 1


def needs(rule):
    """How many things a hand with this rule takes."""
    return NEEDS[rule[0]]


def made_by(rule, things):
    """The thing that a hand with this rule, none but in, makes of a tuple of the things that it takes."""
    word = rule[0]
    if word == "always":
        return rule[1]
    if word == "times":
        return rule[1] * things[0]
    if word == "pick":
        return things[1] if things[0] != 0 else things[2]
    if word in ("same", "out"):
        return things[0]
    return made_of_two(word, things[0], things[1])


def made_of_two(word, one, other):
    """The thing that the rule of a word that takes two makes of these."""
    if word == "sum":
        return one + other
    if word == "gap":
        return one - other
    if word == "below":
        return 1 if one < other else 0
    if word == "most":
        return max(one, other)
    return min(one, other)
