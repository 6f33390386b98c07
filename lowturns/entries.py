"""The entries of a book: a dict of names with turners, and with words, which are tuples of letters (name, back).

The names in a word stand ahead of it. Entries are not changed; what changes them makes new ones.
"""

from lowturns.errors import TooMany, UnknownName
from lowturns.turners import Turner
from lowturns.words import word_text

MOST_LETTERS = 200


def entry_of(entries, name):
    """The entry with a name; raises UnknownName for any value that is none in the book."""
    if not isinstance(name, str) or name not in entries:
        raise UnknownName(name)
    return entries[name]


def is_turner(entry):
    """Whether an entry is a turner; otherwise it is a word."""
    return isinstance(entry, Turner)


def entry_kind(entry):
    """The kind of an entry in words."""
    return "turner" if is_turner(entry) else "word"


def entry_text(entry):
    """The text of an entry."""
    return entry.text if is_turner(entry) else word_text(entry)


def _undone(letters):
    """The expanded letters that undo these."""
    return [(turner, not back) for turner, back in reversed(letters)]


def _spelled(found, word):
    """The expanded letters of a word; found has those of all names in it."""
    letters = []
    for name, back in word:
        letters.extend(_undone(found[name]) if back else found[name])
    return letters


def expanded(entries):
    """For each name the expanded word of its entry, a list of pairs (turner, back)."""
    found = {}
    for name, entry in entries.items():
        found[name] = [(entry, False)] if is_turner(entry) else _spelled(found, entry)
    return found


def check_word(entries, word):
    """Raise UnknownName or TooMany unless the word can stand behind the entries."""
    for name, _ in word:
        entry_of(entries, name)
    sizes = {name: len(letters) for name, letters in expanded(entries).items()}
    # The letters are counted first, for a long word of long words is too much to spell.
    if sum([sizes[name] for name, _ in word]) > MOST_LETTERS:
        raise TooMany(MOST_LETTERS)
