"""[2]: each class of error is raised by a call, with its base classes, code, details and attributes."""

import unittest

from lowturns import errors
from lowturns.books import Book
from lowturns.counts import next_counts
from lowturns.figures import number_of, setting_of, settings
from lowturns.pages import read_page
from lowturns.programs import affine, compiled, stirring
from lowturns.relabel import Relabelling, match, relabel
from lowturns.turners import Turner
from lowturns.walks import place_of, round_of
from lowturns.words import read_word
from tests.samples import counter, error_of, row, same
from tests.shelves import A, shelf
from tests.test_errors import ALL, MISSING, TURN_ERRORS


def full_book():
    """A book without room."""
    book = Book(2, limit=1)
    book.apply(("turner", "a", A))
    return book


# The name of an error, its details, and calls that raise it.
CALLS = [
    ("InvalidPrime", (4,), lambda: Turner.idle(4)),
    ("InvalidPrime", (True,), lambda: Relabelling(True, [])),
    ("InvalidPrime", ([2],), lambda: Book([2])),
    ("InvalidFigure", (2,), lambda: counter(2).target(0, 2)),
    ("InvalidFigure", ("1",), lambda: relabel(counter(2), counter(2), 1, chosen=[0, "1"])),
    ("InvalidFigure", (None,), lambda: shelf().apply(("turn", "a", 0, None))),
    ("InvalidSetting", ([0],), lambda: number_of(2, [0])),
    ("InvalidSetting", ((2,),), lambda: next(round_of(counter(2), (2,)))),
    ("InvalidSetting", ((),), lambda: Relabelling.idle(2, 1)(())),
    ("InvalidCount", (-1,), lambda: setting_of(2, 0, -1)),
    ("InvalidCount", (5001,), lambda: match(counter(2), counter(2), most=5001)),
    ("InvalidCount", (None,), lambda: shelf().total("a", None)),
    ("InvalidState", (1,), lambda: Turner(2, [(0, (0, 0)), None])),
    ("InvalidStart", (1,), lambda: Turner(2, [(0, (0, 0))], start=1)),
    ("InvalidText", (), lambda: Turner.read("")),
    ("InvalidText", (), lambda: read_word(" ")),
    ("InvalidText", (), lambda: shelf().apply(("program", "x", None))),
    ("InvalidLine", (1,), lambda: compiled(2, "add 1; add")),
    ("InvalidLine", (0,), lambda: shelf().apply(("program", "x", "add"))),
    ("NotATurn", (2,), lambda: affine(2, 2, 0)),
    ("NotATurn", (0,), lambda: shelf().apply(("program", "x", "times 2"))),
    ("LooksUp", (0,), lambda: stirring(2, 0, 9)),
    ("InvalidCounts", (), lambda: next_counts(counter(2), [1])),
    ("InvalidTable", (1,), lambda: Relabelling(2, [[0], [0]])),
    ("PrimesDiffer", (), lambda: counter(2) * counter(3)),
    ("PrimesDiffer", (), lambda: Relabelling.idle(2, 1) * Relabelling.idle(3, 2)),
    ("PrimesDiffer", (), lambda: shelf().apply(("turner", "x", "3 0: 0 0,0,0"))),
    ("TooMany", (20000,), lambda: next(settings(2, 15))),
    ("TooMany", (240,), lambda: affine(2, 999, 0)),
    ("TooMany", (200,), lambda: shelf().apply(("word", "x", "a " * 200 + "a"))),
    ("TooMany", (3,), lambda: match(row(2, [1] * 4, 1), counter(2), most=3)),
    ("NotSingle", (), lambda: place_of(Turner.idle(2), (0,))),
    ("NoRelabelling", (1,), lambda: match(counter(3), counter(3).inverse())),
    ("InvalidName", ("A",), lambda: shelf().apply(("rename", "a", "A"))),
    ("DuplicateName", ("a",), lambda: shelf().apply(("word", "a", ""))),
    ("WrongKind", ("w",), lambda: shelf().apply(("start", "w", 0))),
    ("Full", (1,), lambda: full_book().apply(("word", "w", ""))),
    ("InUse", ("w",), lambda: shelf().apply(("drop", "a"))),
    ("InvalidCommand", (None,), lambda: shelf().apply(())),
    ("InvalidCommand", ((1, [2]),), lambda: shelf().apply(((1, [2]), 3))),
    ("InvalidLimit", (21,), lambda: Book(2, limit=21)),
    ("InvalidLimit", (6,), lambda: shelf().set_limit(6)),
    ("InvalidPage", (0,), lambda: read_page("")),
    ("InvalidPage", (1,), lambda: read_page("prime 2\nx\n")),
    ("UnknownState", (2,), lambda: counter(2).turn(2)),
    ("UnknownState", (5,), lambda: shelf().apply(("wire", "a", 0, 0, 5))),
    ("UnknownName", ("zz",), lambda: shelf().kind("zz")),
    ("UnknownName", ([["a"]],), lambda: shelf().apply(("drop", [["a"]]))),
    ("NothingLeft", (), lambda: Book(2).undo()),
    ("NothingLeft", (), lambda: Book(2).redo()),
]


class Raised(unittest.TestCase):
    def test_each_class_is_raised(self):
        self.assertEqual({name for name, _, _ in CALLS}, set(ALL))

    def test_classes_and_values(self):
        for name, details, call in CALLS:
            error = error_of(self, call)
            self.assertIs(type(error), getattr(errors, name))
            self.assertTrue(same([error.code, error.details], [name, details]), (name, details))
            for parameter, value in zip(ALL[name], details):
                self.assertTrue(same(getattr(error, parameter), value))

    def test_bases(self):
        for name, _, call in CALLS:
            error = error_of(self, call)
            self.assertEqual(isinstance(error, errors.TurnError), name in TURN_ERRORS)
            self.assertEqual(isinstance(error, ValueError), name in TURN_ERRORS)
            self.assertEqual(isinstance(error, errors.Missing), name in MISSING)
            self.assertEqual(isinstance(error, LookupError), name in MISSING or name == "NothingLeft")
            self.assertEqual(isinstance(error, IndexError), name == "NothingLeft")
            self.assertNotIsInstance(error, KeyError)
            for other in ALL:
                self.assertEqual(isinstance(error, getattr(errors, other)), name == other)


if __name__ == "__main__":
    unittest.main()
