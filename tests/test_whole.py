"""What is promised over the whole program: what one part tells is good for the others."""

import copy
import unittest

from beltshift.alike import joined_alike, kinds
from beltshift.bars import bar_holds
from beltshift.beats import beat, holder, holder_holds, holding, holding_holds
from beltshift.desk import Desk
from beltshift.earliest import earliest
from beltshift.fewest import fewest_trays
from beltshift.floors import Floor
from beltshift.full import full_shifts, least_slowing, ring_holds
from beltshift.least import least_time, shifts_or_bar
from beltshift.lookers import shifts_hold
from beltshift.maker import made_room
from beltshift.moving import moved
from beltshift.prices import prices_hold
from beltshift.rooms import doors_in, doors_out, look_room
from beltshift.roomtexts import read_room, show_room
from beltshift.runs import run, standing, worked
from beltshift.saying import said
from beltshift.shifts import look_shifts, trays_moved, waits
from beltshift.slowed import slowed, woven
from beltshift.soonest import soonest, walk_holds
from beltshift.ways import time_of
from tests.samples import CLOSED, COUNTER, ECHO, EMPTY, IN, drawn_formulas, drawn_rooms, drawn_rows, hand, knit_rooms
from tests.test_least import LADDER

MOMENTS = (1, 4, 4, 3, 5, 5, 6, 9, 2)


def made_rooms(many, seed):
    """Rooms made of formulas, some of them larger than what may be handed in by others."""
    return [made_room(formulas, MOMENTS) for formulas in drawn_formulas(many, seed)]


def all_rooms(seed):
    return [EMPTY, COUNTER, ECHO, CLOSED, LADDER] + drawn_rooms(30, seed) + knit_rooms(40, seed) + made_rooms(25, seed)


class Whole(unittest.TestCase):
    def goes_on(self, room, late, shifts, seed):
        """That the moved room tells what the first one tells, later by its lateness."""
        bells = waits(shifts)
        rows = drawn_rows(room, bells + 7, seed)
        after = moved(room, late, shifts, rows[:bells])
        self.assertIs(look_room(after), True)
        self.assertEqual([len(things) for giver, taker, things in after[1]], trays_moved(room, shifts))
        if doors_out(room):
            self.assertEqual(run(after, rows[bells:]), run(room, rows)[bells - late:][:7])
        return after

    def test_all_shifts_that_are_told(self):
        for seed, room in enumerate(all_rooms(301)):
            for late in (0, 2):
                time, shifts, bar = least_time(room, late)
                self.assertLessEqual(time_of(self.goes_on(room, late, shifts, seed)), time)
                many, shifts, walk = soonest(room, late, time)
                self.assertLessEqual(time_of(self.goes_on(room, late, shifts, seed)), time)
                count, shifts, prices = fewest_trays(room, late, time)
                self.assertLessEqual(time_of(self.goes_on(room, late, shifts, seed)), time)
                word, paper = full_shifts(room, late)
                if word == "shifts":
                    self.goes_on(room, late, paper, seed)

    def test_papers_against_each_other(self):
        for room in all_rooms(302):
            for late in (0, 1, 4):
                time, shifts, bar = least_time(room, late)
                many, soon, walk = soonest(room, late, time)
                count, few, prices = fewest_trays(room, late, time)
                for some in (shifts, soon, few):
                    self.assertIs(shifts_hold(room, late, time, some), True)
                    self.assertIs(look_shifts(room, late, some), True)
                    self.assertGreaterEqual(waits(some), many)
                    self.assertGreaterEqual(sum(trays_moved(room, some)), count)
                self.assertTrue(walk is None or walk_holds(room, late, time, many, walk))
                self.assertIs(prices_hold(room, late, time, count, prices), True)
                if bar is not None:
                    self.assertIs(bar_holds(room, late, time - 1, bar), True)
                    self.assertIsNone(soonest(room, late, time - 1))
                    self.assertIsNone(fewest_trays(room, late, time - 1))

    def test_slowed_and_full(self):
        for seed, room in enumerate(all_rooms(303)):
            k, shifts, ring = least_slowing(room)
            slow = slowed(room, k)
            outs = doors_out(room)
            late = shifts[outs[0]] if outs else 0
            after = self.goes_on(slow, late, shifts, seed)
            self.assertTrue(all(things for giver, taker, things in after[1]))
            self.assertEqual(time_of(after), max([moments for rule, moments in room[0]], default=0))
            if k > 1:
                self.assertIs(ring_holds(slowed(room, k - 1), None, ring), True)
            some = [drawn_rows(room, 5, seed + turn) for turn in range(k)]
            self.assertEqual(run(slow, woven(some)), woven([run(room, rows) for rows in some]))

    def test_without_bells(self):
        for room in all_rooms(304):
            a, b = beat(room)
            time, shifts, bar = least_time(room, None)
            greatest = max([moments for rule, moments in room[0]], default=0)
            self.assertLessEqual(a, b * time)
            self.assertTrue(b * time < a + b * greatest or greatest == time == 0)
            self.assertIs(holding_holds(room, (a, b), holding(room)), True)
            self.assertTrue(not room[0] or holder_holds(room, (a, b), holder(room)))
            for number, row in zip(holding(room), earliest(room, 9)):
                self.assertTrue(all(b * begins <= number + a * work for work, begins in enumerate(row)))

    def test_a_floor_makes_what_the_bells_make(self):
        for seed, room in enumerate(all_rooms(305)):
            rows = drawn_rows(room, 5, seed)
            floor = Floor(room)
            for row in rows:
                for door, thing in zip(doors_in(room), row):
                    floor.give(door, thing)
            bells = worked(room, rows)
            left = True
            while left:
                left = [number for number in floor.ready() if len(floor.made(number)) < 5]
                for number in left[::-1][:1]:
                    floor.work(number)
            for number in range(len(room[0])):
                self.assertEqual(floor.made(number), [made[number] for made in bells])

    def test_formulas_over_all(self):
        for seed, formulas in enumerate(drawn_formulas(60, 306)):
            room = made_room(formulas, MOMENTS)
            rows = drawn_rows(room, 8, seed)
            told = said(formulas, rows)
            self.assertEqual(run(room, rows), told)
            self.assertEqual(run(joined_alike(room), rows), told)
            self.assertEqual(run(read_room(show_room(room)), rows), told)
            stands = standing(joined_alike(room), rows[:3])
            self.assertEqual(run(stands, rows[3:]), told[3:])

    def test_asked_between(self):
        rooms = all_rooms(307)
        kept = copy.deepcopy(rooms)
        asks = [
            lambda room: least_time(room, 1), lambda room: shifts_or_bar(room, None, 5), lambda room: soonest(room, 1, 30),
            lambda room: fewest_trays(room, 1, 30), lambda room: full_shifts(room, None), least_slowing, beat, holder, holding, kinds,
            joined_alike, lambda room: earliest(room, 4), lambda room: slowed(room, 2),
        ]
        first = [[ask(room) for ask in asks] for room in rooms]
        again = [[ask(room) for room in rooms] for ask in asks[::-1]][::-1]
        self.assertEqual([list(told) for told in zip(*again)], first)
        self.assertEqual(rooms, kept)

    def test_a_desk_of_many_rooms(self):
        # All that a desk tells of a room stays true of the room that it shows.
        for seed, room in enumerate(all_rooms(308)):
            desk = Desk()
            desk.say("room a " + show_room(room).replace("\n", " ; "))
            for row in drawn_rows(room, 3, seed):
                desk.say(" ".join(["bell a"] + [str(thing) for thing in row]))
            desk.say("room b " + desk.say("show a"))
            for row in ["time", "least {} any", "slowing", "beat", "kinds"]:
                asked = row if "{}" in row else row + " {}"
                self.assertEqual(desk.say(asked.format("a")), desk.say(asked.format("b")))
            self.assertEqual((desk.say("bells a"), desk.say("bells b")), ("3", "0"))

    def test_a_time_at_the_bounds(self):
        # Twelve hands of thirty moments, one behind the other.
        hands = (IN,) + (hand("same", moments=30),) * 11
        room = (hands, tuple((number, number + 1, ()) for number in range(11)))
        self.assertEqual(time_of(room), 330)
        for late in range(7):
            self.assertEqual(least_time(room, late)[0], 30)
            self.assertEqual(soonest(room, late, 30)[0], 10)
            self.assertEqual(soonest(room, late, 400)[0], 0)
            self.assertEqual(fewest_trays(room, late, 30)[0], 10)
            self.assertEqual(full_shifts(room, late)[0], "shifts")
        self.assertEqual(beat(room), (30, 1))
        self.assertEqual(earliest(room, 40)[11][39], 300 + 39 * 30)
