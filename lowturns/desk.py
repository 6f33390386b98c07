"""Desks: a book that is asked and changed by lines of text."""

from lowturns.errors import Missing, NothingLeft, TurnError
from lowturns.numerals import DIGITS, is_numeral

DONE = "ok"
OTHER = "unknown"
NO_DIALS = "-"
MOST_DIGITS = 4
# The least number of words of lines that end in a TEXT.
LEAST_WORDS = {"turner": 3, "program": 2, "word": 2}
# The number of words of all other lines.
WORDS = {"drop": 2, "rename": 3, "undo": 1, "redo": 1, "names": 1, "show": 2, "verdict": 2, "total": 3, "do": 3}


def _has_form(words):
    """Whether the words of a line are as many as its first word wants, and none is empty."""
    if "" in words:
        return False
    first = words[0]
    if first in LEAST_WORDS:
        return len(words) >= LEAST_WORDS[first]
    return first in WORDS and len(words) == WORDS[first]


def _is_row(word):
    """Whether a word is written as a setting, with any digits."""
    return word == NO_DIALS or all([sign in DIGITS for sign in word])


def _read_row(word):
    """The digits of a word as a setting."""
    return () if word == NO_DIALS else tuple([int(sign) for sign in word])


def _row_text(setting):
    """The word for a setting."""
    return "".join([str(figure) for figure in setting]) if len(setting) > 0 else NO_DIALS


def _names_text(book):
    """All names of a book in words."""
    return " ".join(book.names()) if len(book) > 0 else "none"


def _shown(book, name):
    """The text of an entry in words."""
    text = book.text_of(name)
    return text if text != "" else "empty"


def _total_text(book, name, dials):
    """The total of an entry in words."""
    if not is_numeral(dials, MOST_DIGITS):
        return OTHER
    return str(book.total(name, int(dials)))


def _done_text(book, name, figures):
    """What an entry does to a setting, in words."""
    if not _is_row(figures):
        return OTHER
    turner = book.turner(name)
    return _row_text(turner(_read_row(figures)))


def _change(book, words):
    """Do what the words of a line say to the book."""
    first = words[0]
    if first == "undo":
        book.undo()
    elif first == "redo":
        book.redo()
    elif first in LEAST_WORDS:
        book.apply((first, words[1], " ".join(words[2:])))
    else:
        book.apply(tuple(words))
    return DONE


def _answer(book, words):
    """The answer to a line with these words."""
    if not _has_form(words):
        return OTHER
    first = words[0]
    if first == "names":
        return _names_text(book)
    if first == "show":
        return _shown(book, words[1])
    if first == "verdict":
        return book.verdict(words[1])
    if first == "total":
        return _total_text(book, words[1], words[2])
    if first == "do":
        return _done_text(book, words[1], words[2])
    return _change(book, words)


class Desk:
    """A book that answers lines, and the log of these."""

    def __init__(self, book):
        self._book = book
        self._log = []

    @property
    def book(self):
        """The very book that the desk has."""
        return self._book

    def say(self, line):
        """The answer to a line."""
        try:
            answer = _answer(self._book, line.split(" "))
        except (TurnError, Missing, NothingLeft) as error:
            answer = f"error {error.code}"
        self._log.append((line, answer))
        return answer

    def log(self):
        """The list of the pairs (line, answer) so far."""
        return list(self._log)

    def __len__(self):
        return len(self._log)
