"""[21] and the interface of lowturns/desk.py."""

import unittest

from lowturns.books import Book
from lowturns.desk import Desk
from lowturns.turners import Turner
from tests.samples import PRIMES, all_settings, counter, mixed, ring, row, same
from tests.shelves import A, B, IDLE, shelf, text_of_states, told_by

UNKNOWN = "unknown"
FORMS = ["turner x " + A, "program x add 1; add 2", "program x", "word x a b'", "word x", "drop u", "rename u x", "undo",
         "redo", "names", "show a", "verdict a", "total a 3", "do a 101", "do a -"]


class Case(unittest.TestCase):
    def check(self, desk, *pairs):
        """Whether a desk gives these answers to these lines."""
        for line, answer in pairs:
            many = len(desk)
            self.assertTrue(same(desk.say(line), answer), (line, answer))
            self.assertEqual((len(desk), desk.log()[-1]), (many + 1, (line, answer)))

    def unchanged(self, desk, *pairs):
        """The same, where the book does not change."""
        for pair in pairs:
            ahead = told_by(desk.book)
            self.check(desk, pair)
            self.assertEqual(told_by(desk.book), ahead)


class Lines(Case):
    def test_a_talk(self):
        desk = Desk(Book(2))
        self.check(desk, ("names", "none"), ("turner a " + A, "ok"), ("program p add 1; times 3", "ok"),
                   ("word w a p' a", "ok"), ("word e", "ok"), ("program i", "ok"), ("names", "a p w e i"), ("show a", A),
                   ("show w", "a p' a"), ("show e", "empty"), ("show i", IDLE), ("verdict a", "single"),
                   ("verdict e", "split at 1 dials"), ("total a 0", "1"), ("total e 5000", "0"), ("do a 110", "001"),
                   ("do a -", "-"), ("do e 0110", "0110"), ("rename a b", "ok"), ("show w", "b p' b"), ("drop w", "ok"),
                   ("names", "b p e i"), ("undo", "ok"), ("names", "b p w e i"), ("redo", "ok"), ("names", "b p e i"),
                   ("redo", "error NothingLeft"), ("drop b", "ok"), ("names", "p e i"))

    def test_each_change_is_one_step(self):
        desk = Desk(Book(2))
        for many, line in enumerate(("turner a " + A, "program p add 1", "word w a", "word e", "program q", "drop q",
                                     "rename a b")):
            self.assertEqual(desk.book.history(), (many, 0))
            self.check(desk, (line, "ok"))
        self.check(desk, ("undo", "ok"), ("undo", "ok"))
        self.assertEqual(desk.book.history(), (5, 2))
        self.check(desk, ("redo", "ok"))
        self.assertEqual(desk.book.history(), (6, 1))

    def test_texts_are_the_rest_of_the_line(self):
        book = Book(2)
        desk = Desk(book)
        text = text_of_states(2, mixed(2, 240, 1), 239)
        self.check(desk, ("turner a " + text, "ok"), ("show a", text), ("program p times 3; add -1; mix 6; stir 1 3", "ok"),
                   ("word w a p' a' p", "ok"), ("show w", "a p' a' p"))
        self.assertEqual(book.kind("p"), "turner")
        other = Book(2)
        other.apply(("turner", "a", text), ("program", "p", "times 3; add -1; mix 6; stir 1 3"), ("word", "w", "a p' a' p"))
        self.assertEqual(book, other)

    def test_names(self):
        desk = Desk(shelf())
        self.unchanged(desk, ("names", "a b p w e v u"))
        self.check(desk, ("rename a z", "ok"), ("names", "z b p w e v u"))

    def test_show(self):
        for prime in PRIMES:
            book = shelf(prime)
            for name in book.names():
                self.unchanged(Desk(book), (f"show {name}", book.text_of(name) or "empty"))
        # A word of empty words is not the word without letters.
        self.check(Desk(shelf()), ("word x e e'", "ok"), ("show x", "e e'"))

    def test_verdicts_are_kept(self):
        book = shelf()
        desk = Desk(book)
        for name in ("a", "u", "w", "e"):
            expected = book.twin().verdict(name)
            many = book.computed
            self.check(desk, (f"verdict {name}", expected), (f"verdict {name}", expected))
            self.assertEqual(book.computed, many + 1)
        self.assertEqual(book.kept(), ["a", "e", "u", "w"])
        self.check(desk, ("turner s 2 0: 1 1,1; 0 1,1", "ok"), ("verdict s", "split at 2 dials"))

    def test_totals(self):
        for prime in PRIMES:
            book = shelf(prime)
            for name in book.names():
                for dials in (0, 1, 9, 10, 100, 5000):
                    self.unchanged(Desk(book), (f"total {name} {dials}", str(book.total(name, dials))))

    def test_do(self):
        for prime in PRIMES:
            book = shelf(prime)
            for name in ("a", "b", "p", "w", "e"):
                turner = book.turner(name)
                for dials in range(4 if prime == 2 else 2):
                    for setting in all_settings(prime, dials):
                        told_ones = "".join(str(figure) for figure in setting) or "-"
                        expected = "".join(str(figure) for figure in turner(setting)) or "-"
                        self.unchanged(Desk(book), (f"do {name} {told_ones}", expected))
        self.unchanged(Desk(shelf(7)), ("do a 6660123", "0001123"), ("do e " + "6" * 200, "6" * 200))


class Forms(Case):
    def test_empty_words(self):
        desk = Desk(shelf())
        for line in FORMS:
            for bent in (" " + line, line + " ", "  " + line, line + "  "):
                self.unchanged(desk, (bent, UNKNOWN))
            for at, sign in enumerate(line):
                if sign == " ":
                    self.unchanged(desk, (line[:at] + " " + line[at:], UNKNOWN))
        self.unchanged(desk, ("", UNKNOWN), (" ", UNKNOWN), ("   ", UNKNOWN))

    def test_unknown_words_and_letter_cases(self):
        desk = Desk(shelf())
        for line in FORMS:
            first, gap, rest = line.partition(" ")
            for word in (first.upper(), first.title(), first + "s", first[:-1], "x" + first, first + ":", "error", "ok", "wire",
                         "turn", "start", "kind", "letters", "history", "help", "unknown", "1", "-"):
                self.unchanged(desk, (word + gap + rest, UNKNOWN))

    def test_other_numbers_of_words(self):
        desk = Desk(shelf())
        sizes = {"turner": range(3), "program": range(2), "word": range(2), "drop": (1, 3, 4), "rename": (1, 2, 4, 5),
                 "undo": (2, 3), "redo": (2, 3), "names": (2, 3), "show": (1, 3, 4), "verdict": (1, 3, 4),
                 "total": (1, 2, 4, 5), "do": (1, 2, 4, 5)}
        for word, wrong in sizes.items():
            for many in wrong:
                if many > 0:
                    for rest in ("a", "1", "zz", "e"):
                        self.unchanged(desk, (" ".join([word] + [rest] * (many - 1)), UNKNOWN))
        self.unchanged(desk, ("turner", UNKNOWN), ("turner a", UNKNOWN), ("turner zz", UNKNOWN), ("turner A", UNKNOWN))

    def test_line_feeds(self):
        desk = Desk(shelf())
        self.unchanged(desk, ("names\n", UNKNOWN), ("\n", UNKNOWN), ("undo\nundo", UNKNOWN), ("do a 1\n", UNKNOWN),
                       ("total a 1\n", UNKNOWN), ("show a\n", "error UnknownName"), ("turner x " + A + "\n", "error InvalidText"),
                       ("word x\n", "error InvalidName"), ("word x a\n", "error InvalidText"),
                       ("program x add 1\n", "error InvalidLine"), ("drop\na", UNKNOWN))

    def test_dials(self):
        desk = Desk(shelf())
        for dials in ("00", "01", "007", "0000", "05000", "+1", "-1", "-0", "00000", "10000", "12345", "99999", "1" * 50, "1.0",
                      "x", "1x", "x1", "1,0", "one", "-", "0x1", "1_0", "'", "1'"):
            for name in ("a", "e", "zz", "A"):
                self.unchanged(desk, (f"total {name} {dials}", UNKNOWN))
        for dials in ("0", "7", "10", "999", "1000", "5000"):
            self.unchanged(desk, (f"total a {dials}", str(desk.book.total("a", int(dials)))))
            self.unchanged(desk, (f"total zz {dials}", "error UnknownName"))
        for dials in ("5001", "9999"):
            self.unchanged(desk, (f"total a {dials}", "error InvalidCount"), (f"total e {dials}", "error InvalidCount"),
                           (f"total zz {dials}", "error UnknownName"))

    def test_figures(self):
        desk = Desk(shelf(3))
        for figures in ("x", "0x", "x0", "01x10", "0-1", "-0", "--", "-1", "+1", "0,1", "0.1", "(0)", "'", "0'", "A", "1_1",
                        "0\n"):
            for name in ("a", "w", "zz", "A"):
                self.unchanged(desk, (f"do {name} {figures}", UNKNOWN))
        for figures in ("3", "9", "0123", "3000", "0" * 199 + "3", "0" * 201, "9" * 300, "1" * 5000):
            self.unchanged(desk, (f"do a {figures}", "error InvalidSetting"), (f"do e {figures}", "error InvalidSetting"),
                           (f"do w {figures}", "error InvalidSetting"), (f"do zz {figures}", "error UnknownName"))
        self.unchanged(desk, ("do a 222", "000"), ("do a " + "0" * 200, "1" + "0" * 199), ("do zz -", "error UnknownName"))

    def test_the_order_in_do(self):
        book = Book(2, limit=20)
        book.apply(("turner", "a", text_of_states(2, mixed(2, 16, 1))), ("turner", "b", text_of_states(2, mixed(2, 17, 2))),
                   ("word", "w", "a b a"))
        desk = Desk(book)
        for figures in ("0", "-", "2", "9" * 300):
            self.unchanged(desk, (f"do w {figures}", "error TooMany"), (f"do zz {figures}", "error UnknownName"))
        self.unchanged(desk, ("do w x", UNKNOWN), ("do zz x", UNKNOWN), ("do a 2", "error InvalidSetting"),
                       ("do a 0", str(book.turner("a")((0,))[0])), ("total w 3", str(book.total("w", 3))))


class Errors(Case):
    def test_of_adding(self):
        book = shelf(limit=8)
        desk = Desk(book)
        for kind, right in (("turner", A), ("program", "add 1"), ("word", "a")):
            self.unchanged(desk, (f"{kind} A {right}", "error InvalidName"), (f"{kind} abcdefghi {right}", "error InvalidName"),
                           (f"{kind} a {right}", "error DuplicateName"), (f"{kind} a x,", "error DuplicateName"))
        self.unchanged(desk, ("turner x a", "error InvalidText"), ("turner x " + Turner.idle(3).text, "error PrimesDiffer"),
                       ("program x add", "error InvalidLine"), ("program x times 2", "error NotATurn"),
                       ("program x stir 0 1", "error LooksUp"), ("program x times 999", "error TooMany"),
                       ("word x A", "error InvalidText"), ("word x zz", "error UnknownName"),
                       ("word x " + "a " * 200 + "a", "error TooMany"), ("program A", "error InvalidName"),
                       ("program x 2 0: 0 0,0", "error InvalidLine"))
        self.check(desk, ("word x", "ok"))
        for kind, right in (("turner", A), ("program", "add 1"), ("word", "a"), ("turner", "a"), ("word", "zz")):
            self.unchanged(desk, (f"{kind} y {right}", "error Full"), (f"{kind} Y {right}", "error InvalidName"))
        self.unchanged(desk, ("word y", "error Full"), ("program y", "error Full"))

    def test_of_other_lines(self):
        desk = Desk(shelf())
        self.unchanged(desk, ("drop zz", "error UnknownName"), ("drop a", "error InUse"), ("drop A", "error UnknownName"),
                       ("rename zz x", "error UnknownName"), ("rename a A", "error InvalidName"),
                       ("rename a b", "error DuplicateName"), ("rename a a", "error DuplicateName"),
                       ("show zz", "error UnknownName"), ("verdict zz", "error UnknownName"),
                       ("total zz 1", "error UnknownName"), ("do zz 1", "error UnknownName"), ("redo", "error NothingLeft"))
        desk = Desk(Book(2))
        self.unchanged(desk, ("undo", "error NothingLeft"), ("redo", "error NothingLeft"), ("names", "none"))

    def test_a_verdict_that_takes_too_many(self):
        book = Book(3)
        book.apply(("turner", "a", row(3, [1] * 30, 3).text), ("turner", "b", row(3, [1] * 75, 1).text), ("word", "w", "a b"))
        desk = Desk(book)
        self.unchanged(desk, ("verdict w", "error TooMany"), ("verdict zz", "error UnknownName"))
        self.assertEqual((book.kept(), book.computed), ([], 0))


class Desks(Case):
    def test_the_very_book(self):
        book = shelf()
        desk = Desk(book)
        self.assertIs(desk.book, book)
        self.assertIsInstance(vars(Desk)["book"], property)
        self.assertRaises(AttributeError, setattr, desk, "book", Book(2))
        book.apply(("drop", "u"))
        self.check(desk, ("names", "a b p w e v"), ("undo", "ok"), ("names", "a b p w e v u"))
        self.assertEqual(book.history(), (4, 1))

    def test_several_desks_of_one_book(self):
        book = Book(2)
        one, other = Desk(book), Desk(book)
        self.check(one, ("turner a " + A, "ok"))
        self.check(other, ("names", "a"), ("rename a b", "ok"))
        self.check(one, ("show b", A), ("undo", "ok"), ("undo", "ok"))
        self.check(other, ("names", "none"), ("redo", "ok"), ("names", "a"))
        self.assertEqual((len(one), len(other)), (4, 5))
        self.assertEqual(one.log(), [("turner a " + A, "ok"), ("show b", A), ("undo", "ok"), ("undo", "ok")])

    def test_the_log(self):
        desk = Desk(shelf())
        self.assertTrue(same([desk.log(), len(desk)], [[], 0]))
        for line in ("names", "x", "", "drop zz", "names", " ", "do a 1", "undo"):
            desk.say(line)
        expected = [("names", "a b p w e v u"), ("x", UNKNOWN), ("", UNKNOWN), ("drop zz", "error UnknownName"),
                    ("names", "a b p w e v u"), (" ", UNKNOWN), ("do a 1", "0"), ("undo", "ok")]
        self.assertTrue(same([desk.log(), len(desk)], [expected, 8]))

    def test_what_is_told_may_be_changed(self):
        desk = Desk(shelf())
        desk.say("names")
        desk.log().append(1)
        desk.log().clear()
        self.assertEqual((desk.log(), len(desk)), ([("names", "a b p w e v u")], 1))

    def test_many_states(self):
        for prime in PRIMES:
            desk = Desk(Book(prime))
            text = text_of_states(prime, ring(prime, 240, 101), 239)
            self.check(desk, ("turner a " + text, "ok"), ("show a", text), ("turner b " + text.replace(" 239:", " 240:"),
                                                                            "error InvalidText"))
            figures = ",".join(["0"] * prime)
            for bent in (f"{prime} 00: 0 {figures}", f"{prime} 0: 00 {figures}", f"{prime} 0: 0 0{figures}",
                         f"0{prime} 0: 0 {figures}", f"{prime} 0:" + ";".join([f" 0 {figures}"] * 241)):
                self.unchanged(desk, ("turner x " + bent, "error InvalidText"))
            self.check(desk, ("turner c " + counter(prime).text, "ok"), ("do c " + str(prime - 1) * 3, "000"))
        self.check(Desk(Book(2)), ("turner x " + B, "ok"), ("do x 00", "11"))


if __name__ == "__main__":
    unittest.main()
