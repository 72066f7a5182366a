"""Rooms as texts."""

from beltshift.errors import NoText
from beltshift.rooms import look_room
from beltshift.rules import is_rule
from beltshift.words import number_of, text_of


def show_room(room):
    """The text of a room."""
    hands, belts = room
    rows = [hand_row(rule, moments) for rule, moments in hands]
    rows.extend([belt_row(giver, taker, things) for giver, taker, things in belts])
    return "\n".join(rows)


def hand_row(rule, moments):
    """The row of a hand."""
    numbers = [text_of(number) for number in rule[1:] + (moments,)]
    return " ".join(["hand", rule[0]] + numbers)


def belt_row(giver, taker, things):
    """The row of a belt."""
    return " ".join(["belt", text_of(giver), text_of(taker), ":"] + [text_of(thing) for thing in things])


def read_room(text):
    """The room that a text writes; else NoText, or NoRoom."""
    # Split, the text without signs would be one row without signs, and that is no row of a room.
    rows = text.split("\n") if text else []
    hands = []
    belts = []
    for number, row in enumerate(rows):
        words = row.split(" ")
        hand = hand_of(words)
        belt = belt_of(words)
        if hand is not None and not belts:
            hands.append(hand)
        elif belt is not None:
            belts.append(belt)
        else:
            raise NoText(number)
    room = (tuple(hands), tuple(belts))
    look_room(room)
    return room


def hand_of(words):
    """The hand that the words of a row write, or None."""
    if words[0] != "hand" or len(words) < 3:
        return None
    numbers = numbers_of(words[2:])
    if numbers is None or numbers[-1] < 0:
        return None
    rule = (words[1],) + numbers[:-1]
    return (rule, numbers[-1]) if is_rule(rule) else None


def belt_of(words):
    """The belt that the words of a row write, or None."""
    if words[0] != "belt" or len(words) < 4 or words[3] != ":":
        return None
    ends = numbers_of(words[1:3])
    things = numbers_of(words[4:])
    if ends is None or things is None or min(ends) < 0:
        return None
    return (ends[0], ends[1], things)


def numbers_of(words):
    """A tuple of the numbers that words write, or None where one writes none."""
    numbers = tuple([number_of(word) for word in words])
    return None if None in numbers else numbers
