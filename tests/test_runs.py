import copy
import unittest

from beltshift.rooms import look_room
from beltshift.rules import made_by
from beltshift.runs import Run, run, standing, worked
from tests.samples import CLOSED, COUNTER, ECHO, EMPTY, IN, OUT, drawn_rooms, drawn_rows, hand


def made_at(room, rows, number, bell, known):
    """What a hand makes at a bell, as the document's words have it, bell by bell backwards."""
    if (number, bell) not in known:
        hands, belts = room
        if hands[number][0] == ("in",):
            ins = [k for k, (rule, moments) in enumerate(hands) if rule == ("in",)]
            known[number, bell] = rows[bell][ins.index(number)]
        else:
            taken = [
                things[bell] if bell < len(things) else made_at(room, rows, giver, bell - len(things), known)
                for giver, taker, things in belts
                if taker == number
            ]
            known[number, bell] = made_by(hands[number][0], tuple(taken))
    return known[number, bell]


def by_the_words(room, rows):
    known = {}
    hands = range(len(room[0]))
    return [tuple(made_at(room, rows, number, bell, known) for number in hands) for bell in range(len(rows))]


def stood(room, rows):
    """The room as it stands: on a belt of w trays lie the things that it would give at the next w bells."""
    known = {}
    bells = len(rows)
    belts = []
    for giver, taker, things in room[1]:
        trays = [
            things[bell] if bell < len(things) else made_at(room, rows, giver, bell - len(things), known)
            for bell in range(bells, bells + len(things))
        ]
        belts.append((giver, taker, tuple(trays)))
    return (room[0], tuple(belts))


class Kinds(unittest.TestCase):
    def rows_of_numbers(self, told):
        self.assertIs(type(told), list)
        for row in told:
            self.assertIs(type(row), tuple)
            for thing in row:
                self.assertIs(type(thing), int)

    def room_of_tuples(self, room):
        self.assertIs(type(room), tuple)
        self.assertIs(look_room(room), True)


class Runs(Kinds):
    def told(self, room, rows, out):
        kept = copy.deepcopy((room, rows))
        self.assertEqual(run(room, rows), out)
        self.assertEqual(run(room, tuple(rows)), out)
        self.assertEqual((room, rows), kept)

    def test_without_trays(self):
        room = ((IN, IN, hand("gap"), OUT), ((0, 2, ()), (1, 2, ()), (2, 3, ())))
        self.told(room, [(5, 3), (3, 5), (0, 0)], [(2,), (-2,), (0,)])
        turned = ((IN, IN, hand("gap"), OUT), ((1, 2, ()), (0, 2, ()), (2, 3, ())))
        self.told(turned, [(5, 3), (3, 5)], [(-2,), (2,)])

    def test_one_tray_and_several(self):
        for things in [(), (4,), (4, 5), (4, 5, 6, 7, 8, 9)]:
            room = ((IN, OUT), ((0, 1, things),))
            for bells in range(9):
                came = [(100 + bell,) for bell in range(bells)]
                out = ([(thing,) for thing in things] + came)[:bells]
                self.told(room, came, out)

    def test_a_belt_to_itself(self):
        self.told(COUNTER, [(1,), (2,), (3,)], [(11,), (13,), (16,)])

    def test_several_belts_between_two_hands(self):
        self.told(ECHO, [(1,), (2,), (3,), (4,), (5,), (6,)], [(5,), (-7,), (-8,), (-12,), (-3,), (-3,)])

    def test_all_rules(self):
        rules = [("sum",), ("gap",), ("below",), ("most",), ("least",)]
        hands = [IN, IN, IN] + [(rule, 1) for rule in rules] + [hand("pick"), hand("times", -3), hand("always", 4)]
        hands += [hand("same")] + [OUT] * 9
        belts = [(giver, number, ()) for number in range(3, 8) for giver in (0, 1)]
        belts += [(0, 8, ()), (1, 8, ()), (2, 8, ()), (0, 9, ()), (0, 11, ())]
        belts += [(number, number + 9, ()) for number in range(3, 12)]
        room = (tuple(hands), tuple(belts))
        rows = [(2, 7, 9), (7, 2, 9), (0, 0, 5), (-1, -3, 4)]
        out = [(9, -5, 1, 7, 2, 7, -6, 4, 2), (9, 5, 0, 7, 2, 2, -21, 4, 7)]
        out += [(0, 0, 0, 0, 0, 5, 0, 4, 0), (-4, 2, 0, -1, -3, -3, 3, 4, -1)]
        self.told(room, rows, out)

    def test_doors_in_their_order(self):
        room = ((OUT, IN, OUT, IN), ((3, 0, ()), (1, 2, ())))
        self.told(room, [(1, 2), (3, 4)], [(2, 1), (4, 3)])

    def test_rooms_that_lack_something(self):
        self.told(EMPTY, [], [])
        self.told(EMPTY, [(), ()], [(), ()])
        self.told(CLOSED, [(), ()], [(), ()])
        self.told(((IN, IN), ()), [(1, 2)], [()])
        self.told(((hand("always", 3), OUT), ((0, 1, (8,)),)), [(), (), ()], [(8,), (3,), (3,)])
        self.told(ECHO, [], [])

    def test_as_the_words_have_it(self):
        for seed, room in enumerate(drawn_rooms(150, 4)):
            rows = drawn_rows(room, seed % 11, seed)
            made = by_the_words(room, rows)
            outs = [number for number, (rule, moments) in enumerate(room[0]) if rule == ("out",)]
            self.assertEqual(worked(room, rows), made)
            self.told(room, rows, [tuple(row[number] for number in outs) for row in made])
            self.assertEqual(standing(room, rows), stood(room, rows))


class Worked(Kinds):
    def test_all_hands(self):
        self.assertEqual(worked(COUNTER, [(1,), (2,)]), [(1, 11, 11), (2, 13, 13)])
        self.assertEqual(worked(CLOSED, [(), (), ()]), [(3, -6, 6), (-6, 12, 6), (12, -24, 6)])
        self.assertEqual(worked(EMPTY, [(), ()]), [(), ()])
        self.assertEqual(worked(ECHO, []), [])
        self.assertEqual(worked(((IN, IN), ()), ((1, 2), (3, 4))), [(1, 2), (3, 4)])

    def test_kinds(self):
        for seed, room in enumerate([EMPTY, COUNTER, ECHO, CLOSED] + drawn_rooms(30, 5)):
            rows = drawn_rows(room, 7, seed)
            self.rows_of_numbers(worked(room, rows))
            self.rows_of_numbers(run(room, rows))

    def test_told_anew(self):
        rows = [(1,), (2,)]
        for ask in (run, worked):
            first = ask(ECHO, rows)
            before = list(first)
            first.clear()
            self.assertEqual(ask(ECHO, rows), before)
        self.assertEqual(rows, [(1,), (2,)])


class Standing(Kinds):
    def test_no_rows(self):
        for room in [EMPTY, COUNTER, ECHO, CLOSED] + drawn_rooms(20, 6):
            self.assertEqual(standing(room, []), room)
            self.assertEqual(standing(room, ()), room)

    def test_trays(self):
        self.assertEqual(standing(COUNTER, [(1,), (2,)]), (COUNTER[0], ((0, 1, ()), (1, 1, (13,)), (1, 2, ()))))
        belts = ((0, 1, ()), (0, 1, (9, 100, 200)), (1, 2, ()), (1, 2, (93, 192)), (2, 3, (190,)))
        self.assertEqual(standing(ECHO, [(100,), (200,)]), (ECHO[0], belts))
        belts = ((0, 1, ()), (0, 1, (8, 9, 100)), (1, 2, ()), (1, 2, (-2, 93)), (2, 3, (92,)))
        self.assertEqual(standing(ECHO, ((100,),)), (ECHO[0], belts))

    def test_goes_on(self):
        for seed, room in enumerate([EMPTY, COUNTER, ECHO, CLOSED] + drawn_rooms(60, 7)):
            rows = drawn_rows(room, 9, seed)
            for bells in range(10):
                later = standing(room, rows[:bells])
                self.room_of_tuples(later)
                self.assertEqual(run(room, rows), run(room, rows[:bells]) + run(later, rows[bells:]))
                self.assertEqual(standing(room, rows), standing(later, rows[bells:]))
                self.assertEqual([len(belt[2]) for belt in later[1]], [len(belt[2]) for belt in room[1]])


class Begun(Kinds):
    def test_ahead_of_any_bell(self):
        begun = Run(ECHO)
        self.assertEqual((begun.bells(), begun.room(), begun.bells()), (0, ECHO, 0))
        self.assertEqual(Run(EMPTY).room(), EMPTY)

    def test_bell_by_bell(self):
        for seed, room in enumerate([EMPTY, COUNTER, ECHO, CLOSED] + drawn_rooms(40, 8)):
            rows = drawn_rows(room, 8, seed)
            begun = Run(room)
            out = run(room, rows)
            for bell, things in enumerate(rows):
                self.assertEqual(begun.bells(), bell)
                told = begun.bell(things)
                self.assertIs(type(told), tuple)
                self.assertEqual(told, out[bell])
                self.assertEqual(begun.room(), standing(room, rows[: bell + 1]))
                self.room_of_tuples(begun.room())
            self.assertEqual(begun.bells(), len(rows))
            self.assertIs(type(begun.bells()), int)

    def test_questions_change_nothing(self):
        asked, silent = Run(ECHO), Run(ECHO)
        for thing in range(6):
            asked.room()
            asked.bells()
            run(ECHO, [(1,)])
            asked.room()
            self.assertEqual(asked.bell((thing,)), silent.bell((thing,)))
        self.assertEqual((asked.room(), asked.bells()), (silent.room(), silent.bells()))

    def test_what_was_told_stays(self):
        begun = Run(COUNTER)
        before = begun.room()
        out = begun.bell((5,))
        begun.bell((6,))
        self.assertEqual((before, out), (COUNTER, (15,)))

    def test_by_turns(self):
        one, other, third = Run(COUNTER), Run(COUNTER), Run(ECHO)
        told = []
        for thing in (1, 2, 3):
            told.append((one.bell((thing,)), third.bell((thing,)), other.bell((10 * thing,))))
        self.assertEqual(told, [((11,), (5,), (20,)), ((13,), (-7,), (40,)), ((16,), (-8,), (70,))])
        self.assertEqual((one.bells(), other.bells(), third.bells()), (3, 3, 3))
        self.assertEqual(one.room()[1][1], (1, 1, (16,)))
        self.assertEqual(other.room()[1][1], (1, 1, (70,)))

    def test_begun_with_the_room_of_another(self):
        for seed, room in enumerate([ECHO, COUNTER, CLOSED] + drawn_rooms(20, 9)):
            rows = drawn_rows(room, 10, seed)
            first = Run(room)
            for things in rows[:4]:
                first.bell(things)
            second = Run(first.room())
            self.assertEqual(second.bells(), 0)
            for things in rows[4:]:
                self.assertEqual(first.bell(things), second.bell(things))
                self.assertEqual(first.room(), second.room())
            self.assertEqual((first.bells(), second.bells()), (10, 6))
