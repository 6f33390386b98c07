"""What the tests of books, pages and desks share: books to try, and their states straight from the document."""

from lowturns.books import Book
from lowturns.turners import Turner
from tests.samples import mixed

A = "2 0: 1 1,0; 0 1,1"
B = "2 1: 0 1,0; 1 1,0"
IDLE = "2 0: 0 0,0"


def text_of_states(prime, states, start=0):
    """The text of a turner."""
    return Turner(prime, states, start=start).text


def shelf(prime=2, limit=20):
    """A book with turners and words, some of them in others."""
    book = Book(prime, limit=limit)
    book.apply(("turner", "a", text_of_states(prime, [(1, (1,) * (prime - 1) + (0,)), (0, (1,) * prime)])))
    book.apply(("turner", "b", text_of_states(prime, mixed(prime, 2, 4), 1)),
               ("program", "p", f"add 1; times {1 + prime}"))
    book.apply(("word", "w", "a b' a"), ("word", "e", ""))
    book.apply(("word", "v", "w' p e w"), ("word", "u", "v' v v"))
    return book


def told_by(book):
    """All that a book tells, but for verdicts that are computed when they are asked for."""
    names = book.names()
    return (book.prime, book.limit, names, [book.kind(name) for name in names], [book.text_of(name) for name in names],
            [[(turner.text, back) for turner, back in book.letters(name)] for name in names], book.history(),
            book.kept(), book.computed, book.busy, len(book), repr(book))


def expanded(book, name):
    """The expanded word of an entry, straight from [17]."""
    if book.kind(name) == "turner":
        return [(book.text_of(name), False)]
    found = []
    for part in book.text_of(name).split():
        letters = expanded(book, part.rstrip("'"))
        if part.endswith("'"):
            letters = [(text, not back) for text, back in reversed(letters)]
        found += letters
    return found
