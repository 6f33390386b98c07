"""Books: named turners and words with undo, and the verdicts that are kept of them."""

from lowturns.commands import done
from lowturns.entries import entry_kind, entry_of, entry_text, expanded, is_turner
from lowturns.errors import InvalidLimit, NothingLeft
from lowturns.figures import check_prime, is_number
from lowturns.sides import word_total, word_verdict
from lowturns.turners import Turner


def _check_limit(limit, least, most):
    """Raise InvalidLimit unless it is a number from least to most."""
    if not is_number(limit) or not least <= limit <= most:
        raise InvalidLimit(limit)


def _product(prime, letters):
    """The turner that does the expanded letters, from the first one to the last one."""
    joined = Turner.idle(prime)
    for turner, back in letters:
        joined = joined * (turner.inverse() if back else turner)
    return joined


class Book:
    """Entries with different names, in the order in which they came."""

    MOST = 20

    def __init__(self, prime, *, limit=12):
        check_prime(prime)
        _check_limit(limit, 1, Book.MOST)
        self._prime = prime
        self._limit = limit
        self._entries = {}
        # The entries ahead of the steps that can be undone, and behind those that can be redone.
        self._past = []
        self._future = []
        self._verdicts = {}
        self._computed = 0
        self._busy = False

    @property
    def prime(self):
        """The prime of all turners of the book."""
        return self._prime

    @property
    def limit(self):
        """The number of names from which on none is added."""
        return self._limit

    @limit.setter
    def limit(self, value):
        _check_limit(value, max(1, len(self._entries)), Book.MOST)
        self._limit = value

    @property
    def busy(self):
        """Whether commands are being applied."""
        return self._busy

    @property
    def computed(self):
        """The number of verdicts that were computed."""
        return self._computed

    def set_limit(self, limit):
        """Give the book another limit."""
        self.limit = limit

    def apply(self, *commands):
        """Do the commands, in order and as one step."""
        self._busy = True
        try:
            entries = self._entries
            for command in commands:
                entries = done(self._prime, self._limit, entries, command)
        finally:
            self._busy = False
        self._past.append(self._entries)
        self._future = []
        self._turn_to(entries)

    def undo(self):
        """Take the last step back."""
        if len(self._past) == 0:
            raise NothingLeft()
        self._future.append(self._entries)
        self._turn_to(self._past.pop())

    def redo(self):
        """Make the step again that was taken back last."""
        if len(self._future) == 0:
            raise NothingLeft()
        self._past.append(self._entries)
        self._turn_to(self._future.pop())

    def history(self):
        """The numbers of the steps that can be undone and redone."""
        return (len(self._past), len(self._future))

    def names(self, *kinds):
        """The list of all names, or of those of these kinds."""
        if len(kinds) == 0:
            return list(self._entries)
        return [name for name, entry in self._entries.items() if entry_kind(entry) in kinds]

    def kind(self, name):
        """Whether an entry is a turner or a word, in words."""
        return entry_kind(entry_of(self._entries, name))

    def text_of(self, name):
        """The text of an entry."""
        return entry_text(entry_of(self._entries, name))

    def letters(self, name):
        """The expanded word of an entry, a list of pairs (turner, back)."""
        entry_of(self._entries, name)
        return expanded(self._entries)[name]

    def turner(self, name):
        """The turner of an entry; that of a word is the product of its expanded letters."""
        entry = entry_of(self._entries, name)
        return entry if is_turner(entry) else _product(self._prime, self.letters(name))

    def total(self, name, dials):
        """The total of an entry at so many dials."""
        return word_total(self._prime, self.letters(name), dials)

    def verdict(self, name):
        """Whether an entry is single, in words."""
        letters = self.letters(name)
        if name not in self._verdicts:
            self._verdicts[name] = word_verdict(self._prime, letters)
            self._computed += 1
        return self._verdicts[name]

    def kept(self):
        """The ascending list of the names whose verdicts are kept."""
        return sorted(list(self._verdicts))

    def twin(self):
        """An independent book that is like this one in all."""
        book = self.stepless()
        book._past = list(self._past)
        book._future = list(self._future)
        book._verdicts = dict(self._verdicts)
        book._computed = self._computed
        return book

    def stepless(self):
        """A book with the same entries and limit, without steps and kept verdicts."""
        book = Book(self._prime, limit=self._limit)
        book._entries = self._entries
        return book

    def __contains__(self, name):
        return isinstance(name, str) and name in self._entries

    def __len__(self):
        return len(self._entries)

    def __eq__(self, other):
        return (isinstance(other, Book) and self._prime == other._prime
                and list(self._entries.items()) == list(other._entries.items()))

    def __repr__(self):
        return f"Book({self._prime}, {len(self._entries)} names)"

    def _turn_to(self, entries):
        """Go over to other entries; the verdicts of names with other expanded words are forgotten."""
        ahead, behind = expanded(self._entries), expanded(entries)
        kept = {}
        for name, verdict in self._verdicts.items():
            if name in behind and behind[name] == ahead[name]:
                kept[name] = verdict
        self._verdicts = kept
        self._entries = entries
