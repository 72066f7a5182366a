"""The refusals.

None of them hands a message on: what it was made with is all that it says.
"""


class BeltError(ValueError):
    """Any refusal."""


class NoText(BeltError):
    """A text whose row of this number, from 0, has not the form that is due there."""

    def __init__(self, row):
        self.row = row


class NoRoom(BeltError):
    """What is no room: word says in what it fails, at where."""

    def __init__(self, word, at):
        self.word = word
        self.at = at


class NoFormula(BeltError):
    """Formulas that do not go together: word says in what they fail, name at which name."""

    def __init__(self, word, name):
        self.word = word
        self.name = name


class NoShift(BeltError):
    """Shifts that cannot be made: word says in what they fail, at where."""

    def __init__(self, word, at):
        self.word = word
        self.at = at


class NotReady(BeltError):
    """A hand that was told to work and cannot yet."""

    def __init__(self, hand):
        self.hand = hand


class NoName(BeltError):
    """A name by which no room is kept."""

    def __init__(self, name):
        self.name = name


class NoRow(BeltError):
    """A row that a desk does not know, or cannot follow as things stand."""
