import copy
import unittest

from beltshift.errors import NoRoom, NoText
from beltshift.roomtexts import read_room, show_room
from beltshift.runs import standing
from tests.samples import CLOSED, COUNTER, ECHO, EMPTY, IN, OUT, drawn_rooms, hand, raised

COUNTER_TEXT = "hand in 0\nhand sum 2\nhand out 0\nbelt 0 1 :\nbelt 1 1 : 10\nbelt 1 2 :"
CLOSED_TEXT = "hand same 1\nhand times -2 4\nhand always 6 0\nbelt 1 0 : 3\nbelt 0 1 :"


def kinds(thing):
    """The classes of a thing and of all that is within."""
    if isinstance(thing, tuple):
        return {tuple}.union(*[kinds(part) for part in thing])
    return {type(thing)}


class Show(unittest.TestCase):
    def test_texts(self):
        self.assertEqual(show_room(EMPTY), "")
        self.assertEqual(show_room(COUNTER), COUNTER_TEXT)
        self.assertEqual(show_room(CLOSED), CLOSED_TEXT)
        self.assertEqual(show_room(((IN,), ())), "hand in 0")
        echo = "hand in 0\nhand gap 1\nhand sum 3\nhand out 0\nbelt 0 1 :\nbelt 0 1 : 7 8 9\n"
        self.assertEqual(show_room(ECHO), echo + "belt 1 2 :\nbelt 1 2 : -1 -2\nbelt 2 3 : 5")

    def test_each_word(self):
        for word in ["same", "sum", "gap", "below", "most", "least", "pick", "in", "out"]:
            self.assertEqual(show_room(((hand(word, moments=0),), ())), f"hand {word} 0")
        for number in [0, 7, -7, 10 ** 12]:
            self.assertEqual(show_room(((hand("times", number, moments=3),), ())), f"hand times {number} 3")
            self.assertEqual(show_room(((hand("always", number, moments=0),), ())), f"hand always {number} 0")

    def test_long_numbers_are_written_and_not_read(self):
        for thing in [10 ** 9, -(10 ** 9), 10 ** 18 + 7, -(3 ** 400)]:
            room = ((IN, OUT), ((0, 1, (1, thing)),))
            text = f"hand in 0\nhand out 0\nbelt 0 1 : 1 {thing}"
            self.assertEqual(show_room(room), text)
            self.assertEqual(raised(NoText, read_room, text).row, 2)

    def test_numbers_that_grew_at_bells(self):
        room = ((hand("times", 9), hand("times", 9)), ((1, 0, (1,)), (0, 1, ())))
        for turn in range(60):
            room = standing(room, [()] * 40)
        figures = show_room(room).split("\n")[2].removeprefix("belt 1 0 : ")
        self.assertGreater(len(figures), 4300)
        self.assertTrue(figures.isdigit())
        self.assertEqual(int(figures[-30:]), 81 ** 2400 % 10 ** 30)

    def test_the_room_stays(self):
        kept = copy.deepcopy(ECHO)
        text = show_room(ECHO)
        show_room(COUNTER)
        self.assertEqual(show_room(ECHO), text)
        self.assertEqual(ECHO, kept)


class Read(unittest.TestCase):
    def read(self, text, room):
        told = read_room(text)
        self.assertEqual(told, room, text)
        self.assertLessEqual(kinds(told), {tuple, int, str})
        self.assertEqual(show_room(told), text)

    def test_rooms(self):
        self.read("", EMPTY)
        self.read(COUNTER_TEXT, COUNTER)
        self.read(CLOSED_TEXT, CLOSED)
        self.read("hand in 0", ((IN,), ()))
        self.read("hand always -5 30\nhand in 0", ((hand("always", -5, moments=30), IN), ()))

    def test_each_word(self):
        for word, many in [("same", 1), ("sum", 2), ("gap", 2), ("below", 2), ("most", 2), ("least", 2), ("pick", 3)]:
            self.read(f"hand in 0\nhand {word} 4" + "\nbelt 0 1 : 0" * many,
                      ((IN, hand(word, moments=4)), ((0, 1, (0,)),) * many))
        for number in [0, 999999999, -999999999]:
            self.read(f"hand in 0\nhand times {number} 4\nbelt 0 1 :", ((IN, hand("times", number, moments=4)), ((0, 1, ()),)))

    def test_written_and_read(self):
        for room in [EMPTY, COUNTER, ECHO, CLOSED] + drawn_rooms(100, 3):
            self.read(show_room(room), room)

    def test_more_and_greater_than_is_handed_in(self):
        self.read("\n".join(["hand in 0"] * 400), ((IN,) * 400, ()))
        self.read("hand always 999999999 999999999", ((hand("always", 999999999, moments=999999999),), ()))
        things = tuple([999999999, -999999999] * 150)
        self.read("hand in 0\nhand out 0\nbelt 0 1 : " + " ".join(str(thing) for thing in things),
                  ((IN, OUT), ((0, 1, things),)))
        chain = ((IN,) + (hand("same", moments=31),) * 150, tuple((k, k + 1, ()) for k in range(150)))
        self.read(show_room(chain), chain)


class NoRoomTexts(unittest.TestCase):
    def refused(self, row, text):
        error = raised(NoText, read_room, text)
        self.assertEqual(error.row, row, text)
        self.assertIs(type(error.row), int)

    def wrong_row(self, row):
        """The row is refused alone, ahead of rows, behind them, and ahead of another that is wrong."""
        if row:
            self.refused(0, row)
        self.refused(0, row + "\n" + COUNTER_TEXT)
        self.refused(6, COUNTER_TEXT + "\n" + row)
        self.refused(1, "hand in 0\n" + row + "\nhand odd 0")

    def test_blanks(self):
        for row in ["hand in 0", "hand times 2 3", "belt 0 1 :", "belt 0 1 : 4 5"]:
            self.wrong_row(" " + row)
            self.wrong_row(row + " ")
            self.wrong_row(row + "\t")
            self.wrong_row(row.replace(" ", "  ", 1))
            self.wrong_row(row.replace(" ", "", 1))
            self.wrong_row("  ".join(row.rsplit(" ", 1)))
            self.wrong_row("".join(row.rsplit(" ", 1)) if row[-1] == ":" else row + "  ")
            self.wrong_row(row.replace(" ", "\t"))

    def test_line_feeds(self):
        self.refused(0, "\n")
        self.refused(0, "\n" + COUNTER_TEXT)
        self.refused(6, COUNTER_TEXT + "\n")
        self.refused(1, "hand in 0\n\nhand in 0")
        self.refused(1, "hand in 0\n")
        self.refused(1, "hand in 0\n\n")
        self.refused(0, "hand\nin 0")
        self.refused(0, "hand in 0\r\nhand in 0")

    def test_words(self):
        rows = ["", "hand", "belt", "room", "Hand in 0", "HAND in 0", "hand In 0", "hand odd 0", "hand 0", "hand in"]
        rows += ["hand in 0 0", "hand in in 0", "in 0", "hands in 0", "hand  0", "hand number 0", "hand same 0 same"]
        rows += ["belt 0 1", "belt 0 1 0", "belt 0 :", "belt :", "belt 0 1 2 :", "belt 0 : 1", ": 0 1", "Belt 0 1 :"]
        rows += ["belt 0 1 ;", "belt 0 1 : :", "belt 0 1 : a", "belt 0 1 : 1 a", "belt a 1 :", "belt 0 a :", "belt 0 1 4"]
        rows += ["belt 0 1 : 1,2", "belt 0 1 : - 1", "belt 0 1: 4", "hand : 0", "belt 0 1 :5", "belt 0 1 :: 5", "hand  in 0"]
        for row in rows:
            self.wrong_row(row)

    def test_numbers_with_rules(self):
        for word in ["times", "always"]:
            self.wrong_row(f"hand {word} 3")
            self.wrong_row(f"hand {word}")
            self.wrong_row(f"hand {word} 3 4 5")
            for number in ["03", "-0", "1000000000", "-1000000000", "+3", "3.", "a", "-", "--1"]:
                self.wrong_row(f"hand {word} {number} 0")
        for word in ["same", "sum", "gap", "below", "most", "least", "pick", "in", "out"]:
            self.wrong_row(f"hand {word} 3 0")
            self.wrong_row(f"hand {word}")

    def test_numbers_ill_written(self):
        for number in ["00", "01", "-0", "1000000000", "-1", "-", "+1", "1.0", "True", "None"]:
            self.wrong_row(f"hand same {number}")
            self.wrong_row(f"hand times 2 {number}")
            self.wrong_row(f"belt {number} 1 :")
            self.wrong_row(f"belt 0 {number} :")
        for number in ["00", "01", "-0", "-01", "1000000000", "-1000000000", "-", "+1", "1.0", "True", "None"]:
            self.wrong_row(f"belt 0 1 : {number}")
            self.wrong_row(f"belt 0 1 : 5 {number} 5")

    def test_a_hand_behind_a_belt(self):
        self.refused(3, "hand in 0\nhand out 0\nbelt 0 1 :\nhand in 0")
        self.refused(1, "belt 0 1 :\nhand in 0\nhand out 0")
        self.refused(3, "hand in 0\nhand out 0\nbelt 0 1 :\nhand in 0\nbelt 0 1 : 1\nodd")

    def test_texts_ahead_of_rooms(self):
        self.refused(2, "hand in 5\nbelt 7 8 :\nodd")
        self.refused(1, "hand same 0\nbelt 0 0 : -0")

    def test_rooms_refused(self):
        refused = [
            ("hand in 5", "hand", (0,)),
            ("hand in 0\nhand out 1\nbelt 0 1 :", "hand", (1,)),
            ("belt 0 1 :", "belt", (0,)),
            ("hand in 0\nhand out 0\nbelt 0 1 :\nbelt 0 2 :", "belt", (1,)),
            ("hand in 0\nhand out 0\nbelt 0 1 :\nbelt 1 0 :", "belt", (1,)),
            ("hand in 0\nhand sum 0\nbelt 0 1 :", "count", (1,)),
            ("hand in 0\nhand in 0\nbelt 0 1 :", "count", (1,)),
            ("hand same 0\nhand same 0\nbelt 0 1 :\nbelt 1 0 :", "ring", (0,)),
            ("hand always 1 0\nhand same 0\nbelt 1 1 :", "ring", (1,)),
        ]
        for text, word, at in refused:
            error = raised(NoRoom, read_room, text)
            self.assertEqual((error.word, error.at), (word, at), text)

    def test_asked_again(self):
        for turn in range(2):
            self.refused(0, "odd")
            self.assertEqual(read_room(COUNTER_TEXT), COUNTER)
