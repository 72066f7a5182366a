"""The names, arguments and files of the interface."""

import ast
import os
import unittest

import beltshift

FOLDER = os.path.dirname(os.path.abspath(beltshift.__file__))
FUNCTIONS = {
    "words": ["is_name(text)", "number_of(text)"],
    "rules": ["is_rule(thing)", "needs(rule)", "made_by(rule, things)"],
    "rooms": ["look_room(room)", "comings(room, hand)", "goings(room, hand)", "doors_in(room)", "doors_out(room)"],
    "order": ["work_order(room)"],
    "roomtexts": ["show_room(room)", "read_room(text)"],
    "runs": ["run(room, rows)", "worked(room, rows)", "standing(room, rows)"],
    "formulas": ["look_formulas(formulas)"],
    "formulatexts": ["read_formulas(text)"],
    "saying": ["said(formulas, rows)"],
    "maker": ["made_room(formulas, moments)"],
    "ways": [
        "trays_on(room, way)", "moments_on(room, way)", "way_end(room, pair)", "time_of(room)", "long_way(room)",
        "least_between(room, one, other)", "way_between(room, one, other)",
    ],
    "shifts": ["look_shifts(room, late, shifts)", "waits(shifts)", "trays_moved(room, shifts)"],
    "moving": ["moved(room, late, shifts, rows)"],
    "lookers": ["shifts_hold(room, late, time, shifts)"],
    "bars": ["bar_holds(room, late, time, bar)"],
    "least": ["shifts_or_bar(room, late, time)", "least_time(room, late)"],
    "soonest": ["soonest(room, late, time)", "walk_holds(room, late, time, many, walk)"],
    "prices": ["prices_hold(room, late, time, count, prices)"],
    "fewest": ["fewest_trays(room, late, time)"],
    "slowed": ["slowed(room, k)", "woven(some)"],
    "full": ["full_shifts(room, late)", "ring_holds(room, late, ring)", "least_slowing(room)"],
    "earliest": ["earliest(room, many)"],
    "beats": [
        "beat(room)", "holder(room)", "holder_holds(room, fraction, way)", "holding(room)",
        "holding_holds(room, fraction, numbers)",
    ],
    "alike": ["kinds(room)", "joined_alike(room)"],
}
CLASSES = {
    ("runs", "Run"): ["__init__(self, room)", "bell(self, things)", "bells(self)", "room(self)"],
    ("floors", "Floor"): ["__init__(self, room)", "give(self, hand, thing)", "ready(self)", "work(self, hand)", "made(self, hand)"],
    ("desk", "Desk"): ["__init__(self)", "say(self, row)"],
    ("errors", "NoText"): ["__init__(self, row)"],
    ("errors", "NoRoom"): ["__init__(self, word, at)"],
    ("errors", "NoFormula"): ["__init__(self, word, name)"],
    ("errors", "NoShift"): ["__init__(self, word, at)"],
    ("errors", "NotReady"): ["__init__(self, hand)"],
    ("errors", "NoName"): ["__init__(self, name)"],
    ("errors", "NoRow"): [],
    ("errors", "BeltError"): [],
}


def body(module):
    with open(os.path.join(FOLDER, module + ".py"), encoding="utf-8") as file:
        return ast.parse(file.read()).body


def heads(rows):
    return [f"{row.name}({ast.unparse(row.args)})" for row in rows if isinstance(row, ast.FunctionDef)]


class Interface(unittest.TestCase):
    def test_functions(self):
        for module, functions in FUNCTIONS.items():
            self.assertEqual(set(functions) - set(heads(body(module))), set(), module)

    def test_classes(self):
        for (module, word), methods in CLASSES.items():
            found = [row for row in body(module) if isinstance(row, ast.ClassDef) and row.name == word]
            self.assertEqual(len(found), 1, word)
            self.assertEqual(set(methods) - set(heads(found[0].body)), set(), word)
