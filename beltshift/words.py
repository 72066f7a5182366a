"""Words: names, and whole numbers as texts."""

LETTERS = "abcdefghijklmnopqrstuvwxyz"
FIGURES = "0123456789"
TAKEN = ("in", "out", "was", "if", "then", "else", "most", "least")
LONGEST_NAME = 6
MOST_FIGURES = 9
CHUNK_FIGURES = 18
CHUNK = 10 ** 18


def is_whole(thing):
    """Whether a thing is an int that is no truth."""
    return isinstance(thing, int) and not isinstance(thing, bool)


def is_name(text):
    """Whether a text is a name."""
    if len(text) < 1 or len(text) > LONGEST_NAME:
        return False
    return text not in TAKEN and all(sign in LETTERS for sign in text)


def number_of(text):
    """The whole number that a text writes, or None."""
    figures = text.removeprefix("-")
    if len(figures) < 1 or len(figures) > MOST_FIGURES:
        return None
    # Looked at sign by sign: int would take blanks, underscores and other scripts' figures, too.
    if not all(sign in FIGURES for sign in figures):
        return None
    if figures[0] == "0" and text != "0":
        return None
    return int(text)


def text_of(number):
    """The text that writes a whole number, of whatever size."""
    sign = "-" if number < 0 else ""
    left = abs(number)
    chunks = []
    # In chunks, since str refuses numbers of some thousand figures.
    while left >= CHUNK:
        left, chunk = divmod(left, CHUNK)
        chunks.append(str(chunk).zfill(CHUNK_FIGURES))
    chunks.append(str(left))
    return sign + "".join(chunks[::-1])
