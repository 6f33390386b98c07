"""Names, and words: lists of letters (name, back), where back is True if the thing of this name is undone."""

from lowturns.errors import InvalidText

SIGNS = "abcdefghijklmnopqrstuvwxyz"
MOST_SIGNS = 8
UNDONE = "'"
GAP = " "


def is_name(value):
    """Whether any value is a name."""
    if not isinstance(value, str) or not 1 <= len(value) <= MOST_SIGNS:
        return False
    return all([sign in SIGNS for sign in value])


def _read_letter(text):
    """The letter that a part of a text stands for."""
    back = text.endswith(UNDONE)
    name = text[:-1] if back else text
    if not is_name(name):
        raise InvalidText()
    return (name, back)


def read_word(text):
    """The list of the letters of a text."""
    if not isinstance(text, str):
        raise InvalidText()
    if text == "":
        return []
    return [_read_letter(part) for part in text.split(GAP)]


def word_text(letters):
    """The text from which read_word makes these letters."""
    return " ".join([name + UNDONE if back else name for name, back in letters])
