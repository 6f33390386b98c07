"""Pages: books as texts, a line for each entry."""

from lowturns.books import Book
from lowturns.errors import InvalidPage, Missing, TurnError
from lowturns.figures import PRIMES

KINDS = ("turner", "word")


def write_page(book):
    """The page of a book."""
    lines = [f"prime {book.prime}\n"]
    for name in book.names():
        text = book.text_of(name)
        gap = " " if text != "" else ""
        lines.append(f"{book.kind(name)} {name}{gap}{text}\n")
    return "".join(lines)


def _read_prime(line):
    """The prime that the first line of a page tells."""
    for prime in PRIMES:
        if line == f"prime {prime}":
            return prime
    raise InvalidPage(0)


def _add_entry(book, at, line):
    """Add the entry that the line with the index at tells."""
    kind, _, rest = line.partition(" ")
    name, gap, text = rest.partition(" ")
    if kind not in KINDS or (gap != "" and text == ""):
        raise InvalidPage(at)
    try:
        book.apply((kind, name, text))
    except (TurnError, Missing):
        raise InvalidPage(at) from None


def read_page(text):
    """The book of a page, with the greatest limit."""
    if not isinstance(text, str):
        raise InvalidPage(0)
    lines = text.split("\n")
    unended = lines.pop()
    if len(lines) == 0:
        raise InvalidPage(0)
    book = Book(_read_prime(lines[0]), limit=Book.MOST)
    for at, line in enumerate(lines[1:], start=1):
        _add_entry(book, at, line)
    if unended != "":
        raise InvalidPage(len(lines))
    return book.stepless()
