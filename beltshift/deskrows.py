"""The rows that a desk is told."""

from beltshift.errors import NoRow
from beltshift.roomtexts import numbers_of
from beltshift.words import is_name, number_of

# Of each row's word: what the words behind the name are, then what may be left of the row.
FORMS = {
    "room": ((), "text"),
    "made": (("count", "count", "count", "count", "count", "count", "count", "count", "count"), "text"),
    "show": ((), "nothing"),
    "bell": ((), "numbers"),
    "bells": ((), "nothing"),
    "time": ((), "nothing"),
    "least": (("any",), "nothing"),
    "fewest": (("count", "count"), "nothing"),
    "soonest": (("count", "count"), "nothing"),
    "slowing": ((), "nothing"),
    "beat": ((), "nothing"),
    "kinds": ((), "nothing"),
    "move": (("count",), "numbers"),
    "slow": (("slowing",), "nothing"),
    "join": ((), "nothing"),
}
LEAST = {"count": 0, "any": 0, "slowing": 1}


def read_row(row):
    """(word, name, numbers, rest) of a row; else NoRow.

    Numbers are a tuple of those in the places that each row of this word has, None for any. Rest is a text, a tuple of
    numbers, or None of rows that have none.
    """
    if not isinstance(row, str) or "\n" in row:
        raise NoRow()
    word = row.partition(" ")[0]
    if word not in FORMS:
        raise NoRow()
    places, rest = FORMS[word]
    last = 2 + len(places)
    words = row.split(" ", last)
    if len(words) < last or not is_name(words[1]):
        raise NoRow()
    numbers = [number_in(place, text) for place, text in zip(places, words[2:last])]
    return (word, words[1], tuple(numbers), rest_of(rest, words[last:]))


def number_in(place, text):
    """The number that a word writes in such a place, None where it is any; else NoRow."""
    if place == "any" and text == "any":
        return None
    number = number_of(text)
    if number is None or number < LEAST[place]:
        raise NoRow()
    return number


def rest_of(rest, left):
    """What a row's rest says; left is a list of it, perhaps with many words in one text, or one without anything."""
    if rest == "text" and left:
        return left[0]
    if rest == "numbers":
        numbers = numbers_of(left[0].split(" ")) if left else ()
        if numbers is not None:
            return numbers
    if rest == "nothing" and not left:
        return None
    raise NoRow()
