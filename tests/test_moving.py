import copy
import unittest

from beltshift.errors import NoShift
from beltshift.formulatexts import read_formulas
from beltshift.maker import made_room
from beltshift.moving import moved
from beltshift.rooms import look_room
from beltshift.runs import run, worked
from beltshift.shifts import trays_moved, waits
from tests.samples import CLOSED, COUNTER, ECHO, EMPTY, IN, OUT, drawn_rooms, drawn_rows, drawn_shifts, hand, raised


class Moved(unittest.TestCase):
    def goes_on(self, room, late, shifts, seed):
        """Looks at the moved room, hand by hand and bell by bell, against the first one."""
        bells = waits(shifts)
        rows = drawn_rows(room, bells + 12, seed)
        kept = copy.deepcopy((room, rows))
        after = moved(room, late, shifts, rows[:bells])
        self.assertEqual((room, rows), kept)
        self.assertEqual(after, moved(room, late, shifts, tuple(rows[:bells])))
        self.assertIs(look_room(after), True)
        self.assertEqual(after[0], room[0])
        self.assertEqual([belt[:2] for belt in after[1]], [belt[:2] for belt in room[1]])
        self.assertEqual([len(belt[2]) for belt in after[1]], trays_moved(room, shifts))
        first = run(room, rows)
        later = run(after, rows[bells:])
        for bell in range(12):
            if 0 <= bell + bells - late < len(first):
                self.assertEqual(later[bell], first[bell + bells - late], (room, shifts, bell))
        made, then = worked(room, rows), worked(after, rows[bells:])
        for bell in range(12):
            for number, shift in enumerate(shifts):
                if bell + bells - shift < len(made):
                    self.assertEqual(then[bell][number], made[bell + bells - shift][number])

    def test_written_out(self):
        room = ((IN, hand("times", 2), hand("sum"), OUT), ((0, 1, (5,)), (1, 2, ()), (0, 2, (7,)), (2, 3, (9,))))
        rows = [(1,), (2,)]
        self.assertEqual(moved(room, 1, (0, -1, 0, 1), rows[:1]),
                         (room[0], ((0, 1, ()), (1, 2, (2,)), (0, 2, (1,)), (2, 3, (9, 17)))))
        self.assertEqual(moved(room, 0, (0, -1, -1, 0), []),
                         (room[0], ((0, 1, ()), (1, 2, ()), (0, 2, ()), (2, 3, (9, 17)))))
        self.assertEqual(moved(room, 0, (0, 1, 1, 0), rows[:1]),
                         (room[0], ((0, 1, (5, 1)), (1, 2, ()), (0, 2, (7, 1)), (2, 3, ()))))
        self.assertEqual(moved(room, 2, (0, 1, 2, 2), rows),
                         (room[0], ((0, 1, (1, 2)), (1, 2, (10,)), (0, 2, (7, 1, 2)), (2, 3, (9,)))))

    def test_late_alone(self):
        room = ((IN, OUT), ((0, 1, (8,)),))
        self.assertEqual(moved(room, 2, (0, 2), [(1,), (2,)]), (room[0], ((0, 1, (8, 1, 2)),)))

    def test_below_nought(self):
        self.assertEqual(moved(CLOSED, 0, (-1, -1, -3), []), (CLOSED[0], ((1, 0, (-6,)), (0, 1, ()))))
        self.assertEqual(moved(CLOSED, 0, (-1, 0, 0), []), (CLOSED[0], ((1, 0, ()), (0, 1, (3,)))))
        self.assertEqual(moved(CLOSED, 0, (-2, -1, 0), []), (CLOSED[0], ((1, 0, ()), (0, 1, (-6,)))))
        self.assertEqual(moved(CLOSED, 0, (2, 2, 2), [(), ()]), CLOSED)
        self.assertEqual(moved(CLOSED, 0, (2, 2, 3), [(), (), ()]), (CLOSED[0], ((1, 0, (-6,)), (0, 1, ()))))
        room = ((IN, hand("same"), hand("same"), OUT), ((0, 1, (1, 2, 3)), (1, 2, ()), (2, 3, ())))
        self.assertEqual(moved(room, 0, (0, -3, -2, 0), []),
                         (room[0], ((0, 1, ()), (1, 2, (3,)), (2, 3, (1, 2)))))
        for shifts in [(0, -3, -3, 0), (0, -1, 0, 0), (0, -2, -1, 0), (0, -3, 0, 0)]:
            self.goes_on(room, 0, shifts, 1)

    def test_all_nought(self):
        for room in [EMPTY, COUNTER, ECHO, CLOSED] + drawn_rooms(30, 61):
            self.assertEqual(moved(room, 0, (0,) * len(room[0]), []), room)
            self.assertEqual(moved(room, 0, (0,) * len(room[0]), ()), room)

    def test_goes_on(self):
        for seed, room in enumerate([EMPTY, COUNTER, ECHO, CLOSED] + drawn_rooms(250, 62)):
            for late in {0, seed % 7}:
                self.goes_on(room, late, drawn_shifts(room, late, seed), seed)

    def test_shifts_of_all_sorts_are_drawn(self):
        drawn = [drawn_shifts(room, seed % 2, seed) for seed, room in enumerate(drawn_rooms(250, 62))]
        self.assertTrue(any(min(shifts, default=0) < -1 and waits(shifts) > 1 for shifts in drawn))
        self.assertTrue(any(min(shifts, default=0) < -1 and waits(shifts) == 0 for shifts in drawn))
        self.assertTrue(any(min(shifts, default=0) == 0 and waits(shifts) > 1 for shifts in drawn))

    def test_made_and_moved_and_moved_again(self):
        formulas = read_formulas("in a b\nwas y : 3 4\nx = a + b - ( a - 2 * b )\ny = most ( x , y @ 2 ) - y @ 1\nout y x")
        room = made_room(formulas, (1,) * 9)
        for seed in range(12):
            shifts = drawn_shifts(room, seed % 3, seed)
            self.goes_on(room, seed % 3, shifts, seed)
            after = moved(room, seed % 3, shifts, drawn_rows(room, waits(shifts), seed))
            self.goes_on(after, 1, drawn_shifts(after, 1, seed), seed)
        self.assertTrue(any(shifts))

    def test_refused_ahead_of_anything_else(self):
        room = ((IN, hand("same"), OUT), ((0, 1, ()), (1, 2, ())))
        for shifts, word, at in [
            ([0, 0, 0], "form", ()), ((0, 0), "form", ()), (None, "form", ()), ((0, 0, True), "form", ()),
            ((1, 1, 1), "door", (0,)), ((0, 0, 0), "door", (2,)), ((0, -1, 1), "belt", (0,)), ((0, 2, 1), "belt", (1,)),
        ]:
            for rows in [[], (), [(1,)], [(1, 2, 3)] * 5, None, 7, [None], "rows"]:
                error = raised(NoShift, moved, room, 1, shifts, rows)
                self.assertEqual((error.word, error.at), (word, at))

    def test_what_is_done_later_changes_nothing(self):
        rows = [(1,), (2,)]
        room = ((IN, OUT), ((0, 1, (8,)),))
        after = moved(room, 2, (0, 2), rows)
        rows[0] = (99,)
        rows.clear()
        self.assertEqual(after, (room[0], ((0, 1, (8, 1, 2)),)))
        self.assertEqual(moved(room, 2, (0, 2), [(1,), (2,)]), after)
