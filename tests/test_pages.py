"""[20] and the interface of lowturns/pages.py."""

import unittest

from lowturns.books import Book
from lowturns.pages import read_page, write_page
from lowturns.turners import Turner
from tests.samples import FAR, ODD, PRIMES, counter, mixed, ring, same, told
from tests.shelves import A, B, IDLE, shelf, text_of_states, told_by

HEAD = "prime 2\n"
PAGE = HEAD + f"turner a {A}\nturner b {B}\nword w a b' a\nword e\nword v w' e\n"
LETTERS = "abcdefghijklmnopqrst"


def lines_of(many):
    """A page with so many turners."""
    return HEAD + "".join(f"turner {'x' * (1 + at // 20)}{LETTERS[at % 20]} {A}\n" for at in range(many))


class Pages(unittest.TestCase):
    def wrong(self, text, line):
        """Whether a text has this wrong line."""
        self.assertTrue(same(told(self, read_page, text), ("InvalidPage", line)), (text, line))


class Right(Pages):
    def test_by_hand(self):
        book = Book(2)
        book.apply(("turner", "a", A), ("turner", "b", B), ("word", "w", "a b' a"), ("word", "e", ""), ("word", "v", "w' e"))
        self.assertTrue(same(write_page(book), PAGE))
        self.assertEqual(read_page(PAGE), book)

    def test_there_and_back(self):
        for prime in PRIMES:
            for limit in (7, 20):
                book = shelf(prime, limit)
                page = write_page(book)
                self.assertTrue(page.startswith(f"prime {prime}\nturner a {prime} 0: 1 "))
                self.assertEqual(page.count("\n"), 8)
                found = read_page(page)
                self.assertIs(type(found), Book)
                self.assertEqual(found, book)
                self.assertEqual(write_page(found), page)

    def test_empty_books(self):
        for prime in PRIMES:
            self.assertEqual(write_page(Book(prime)), f"prime {prime}\n")
            found = read_page(f"prime {prime}\n")
            self.assertEqual(told_by(found), told_by(Book(prime, limit=20)))

    def test_the_limit_and_no_steps_and_no_verdicts(self):
        book = shelf(limit=9)
        book.verdict("a")
        found = read_page(write_page(book))
        self.assertTrue(same([found.limit, found.history(), found.kept(), found.computed, found.busy],
                             [20, (0, 0), [], 0, False]))
        self.assertEqual(told(self, found.undo), ("NothingLeft",))
        self.assertEqual(told(self, found.redo), ("NothingLeft",))
        found.apply(("start", "a", 1))
        self.assertNotEqual(found, book)
        found.undo()
        self.assertEqual((found, found.history()), (book, (0, 1)))

    def test_the_book_stays(self):
        book = shelf()
        book.verdict("w")
        ahead = told_by(book)
        write_page(book)
        self.assertEqual(told_by(book), ahead)

    def test_the_order_of_entries(self):
        book = shelf()
        book.apply(("rename", "a", "z"), ("drop", "u"), ("turner", "c", A), ("word", "b" * 8, "z"))
        lines = write_page(book).split("\n")
        self.assertEqual([line.split(" ")[1] for line in lines[1:-1]], ["z", "b", "p", "w", "e", "v", "c", "b" * 8])
        self.assertEqual(read_page(write_page(book)), book)

    def test_great_turners(self):
        for many in (101, 240):
            text = text_of_states(7, mixed(7, many, 2), many - 1)
            found = read_page(f"prime 7\nturner a {text}\n")
            self.assertEqual((found.text_of("a"), len(found.turner("a"))), (text, many))
            self.assertEqual(write_page(found), f"prime 7\nturner a {text}\n")
        for text in ("2 0:" + " 0 0,0;" * 240 + " 0 0,0", "2 0: 0 00,0", "2 0: 00 0,0", "2 0: 0 0,001", "02 0: 0 0,0"):
            self.wrong(HEAD + f"turner a {text}\n", 1)
        text = text_of_states(2, ring(2, 240, 239))
        self.assertEqual(read_page(HEAD + f"turner a {text}\n").text_of("a"), text)

    def test_twenty_entries(self):
        for many in (19, 20):
            self.assertEqual(len(read_page(lines_of(many))), many)
            self.assertEqual(write_page(read_page(lines_of(many))), lines_of(many))

    def test_many_letters(self):
        page = PAGE + "word x " + "a " * 199 + "b'\n"
        self.assertEqual(len(read_page(page).letters("x")), 200)
        self.assertEqual(write_page(read_page(page)), page)
        self.assertEqual(len(read_page(page + "word y x e\n").letters("y")), 200)
        self.wrong(page + "word y x a\n", 7)
        self.wrong(PAGE + "word x " + "a " * 200 + "b'\n", 6)
        self.wrong(PAGE + "word x " + "w " * 66 + "a a\nword y x a\n", 7)


class Wrong(Pages):
    def test_values_that_are_no_strings(self):
        for value in [one for one in ODD if not isinstance(one, str)] + FAR + [0, [PAGE], (PAGE,), Book(2), b"prime 2\n"]:
            self.wrong(value, 0)

    def test_the_empty_text(self):
        self.wrong("", 0)

    def test_the_first_line(self):
        for line in ("", " ", "prime", "prime ", "prime 1", "prime 4", "prime 11", "prime 02", "prime 2 ", " prime 2",
                     "prime  2", "Prime 2", "prime 2,", "prime x", "prime +2", "prime -2", "prime 2 0", "primes 2", "2",
                     "turner a " + A, "word e", "prime two", "prime 22", "prime 2\r", "prime2"):
            for rest in ("", f"turner a {A}\n", "x\n", "x"):
                self.wrong(line + "\n" + rest, 0)

    def test_lines_of_another_form(self):
        at = PAGE.count("\n")
        for line in ("", " ", "turner", "turner ", "word", "word ", "prime 2", "x", f"Turner x {A}", f"program x {A}",
                     "program x add 1", f" turner x {A}", f"turner  x {A}", f"turner x  {A}", f"turner x {A} ", "turner x",
                     "turner x ", "word x ", "word  x", " word x", "word x  a", "word x a ", "word x a  b", f"x {A}",
                     "turners x " + A, "drop a", f"turner x {A}\r", "word x a''", "word x '", "word x A", "undo"):
            for rest in ("", "word y a\n", "x\n", "x"):
                self.wrong(PAGE + line + "\n" + rest, at)

    def test_names(self):
        at = PAGE.count("\n")
        for name in ("", "A", "abcdefghi", "a1", "a'", "a", "b", "w", "e", "v"):
            for line in (f"turner {name} {A}", f"word {name} a", f"word {name}"):
                self.wrong(PAGE + line + "\n", at)
                self.wrong(PAGE + line + "\nword x\n", at)
        self.assertEqual(len(read_page(PAGE + f"turner abcdefgh {A}\n")), 6)

    def test_texts(self):
        for text in ("a", "2 0:", "2 0: 0 0,1", "2 1: 0 0,0", "2 0: 2 0,0", "2 0: 0 0,0;", "add 1", "9 0: 0 0,0", ""):
            self.wrong(PAGE + f"turner x {text}\n", 6)

    def test_other_primes(self):
        for prime in PRIMES:
            for other in PRIMES:
                page = f"prime {prime}\nturner a {counter(other).text}\n"
                if prime == other:
                    self.assertEqual(read_page(page).turner("a"), counter(prime))
                else:
                    self.wrong(page, 1)

    def test_letters_that_do_not_stand_ahead(self):
        for text in ("x", "zz", "a zz", "zz'", "v x'", "x x"):
            self.wrong(PAGE + f"word x {text}\nturner zz {A}\n", 6)
        self.wrong(HEAD + f"word w a\nturner a {A}\n", 1)

    def test_the_line_of_the_21st_entry(self):
        self.wrong(lines_of(21), 21)
        self.wrong(lines_of(30), 21)
        self.wrong(lines_of(20) + "word e\n", 21)
        self.wrong(lines_of(20) + "x", 21)

    def test_characters_without_a_line_feed(self):
        for text in ("prime 2", "p", "prime 2 ", "x", " "):
            self.wrong(text, 0)
        for rest in ("x", " ", f"turner x {A}", "word x", "word x a", "prime 2", "turner a " + A):
            self.wrong(PAGE + rest, 6)
            self.wrong(HEAD + rest, 1)
        self.wrong(PAGE[:-1], 5)

    def test_two_wrong_lines(self):
        lines = PAGE.split("\n")[:-1]
        for first in range(len(lines)):
            for second in range(first, len(lines)):
                bent = list(lines)
                bent[first] = "x"
                bent[second] = "y"
                self.wrong("\n".join(bent) + "\n", first)
                self.wrong("\n".join(bent), first)
                self.wrong("\n".join(bent) + "\nz", first)
        self.wrong(PAGE + "\n", 6)
        self.wrong(PAGE + "\n\n", 6)
        self.wrong("\n" + PAGE, 0)

    def test_each_line_bent(self):
        lines = PAGE.split("\n")[:-1]
        for at, line in enumerate(lines):
            for bent in (" " + line, line + " ", line.upper(), line.replace(" ", "  ", 1), "q" + line, line + ";"):
                self.wrong("\n".join(lines[:at] + [bent] + lines[at + 1:]) + "\n", at)
            # Without it, or twice, something further down is wrong, or nothing is.
            twice = "\n".join(lines[:at] + [line, line] + lines[at + 1:]) + "\n"
            self.wrong(twice, at + 1)

    def test_equal_calls(self):
        self.assertEqual(read_page(PAGE), read_page(PAGE))
        self.assertIsNot(read_page(PAGE), read_page(PAGE))
        self.assertEqual(read_page(HEAD + f"turner a {IDLE}\n").turner("a"), Turner.idle(2))


if __name__ == "__main__":
    unittest.main()
