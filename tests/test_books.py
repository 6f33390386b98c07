"""[17], [18] and what lowturns/books.py tells of entries, steps and limits."""

import unittest
from unittest import mock

from lowturns import books
from lowturns.books import Book
from lowturns.turners import Turner
from tests.samples import FAR, ODD, PRIMES, few_settings, mixed, same, told
from tests.shelves import A, B, IDLE, expanded, shelf, text_of_states, told_by

ABSENT = [*ODD, *FAR, "zz", "A", "a ", "a'", ["a"], ("a",), 0, b"a"]


def letter_texts(book, name):
    """The expanded word of an entry, with texts for turners."""
    return [(turner.text, back) for turner, back in book.letters(name)]


class Made(unittest.TestCase):
    def test_empty(self):
        for prime in PRIMES:
            book = Book(prime)
            self.assertTrue(same([book.prime, book.limit, len(book), book.names(), book.history(), book.kept(),
                                  book.computed, book.busy, repr(book)],
                                 [prime, 12, 0, [], (0, 0), [], 0, False, f"Book({prime}, 0 names)"]))
        self.assertEqual(Book.MOST, 20)
        self.assertEqual(Book(2).MOST, 20)

    def test_limits(self):
        for limit in (1, 2, 12, 19, 20):
            self.assertTrue(same(Book(3, limit=limit).limit, limit))
        for limit in [*ODD, *FAR, 0, -1, 21, 22]:
            self.assertTrue(same(told(self, Book, 3, limit=limit), ("InvalidLimit", limit)))

    def test_primes(self):
        for prime in [*ODD, *FAR, 0, 1, 4, 11]:
            for limit in (12, 0, None):
                self.assertTrue(same(told(self, Book, prime, limit=limit), ("InvalidPrime", prime)))

    def test_repr(self):
        for many in range(4):
            book = Book(2)
            book.apply(*[("turner", name, IDLE) for name in "abc"[:many]])
            self.assertEqual(repr(book), f"Book(2, {many} names)")


class Limits(unittest.TestCase):
    def test_both_ways(self):
        for limit in range(7, 21):
            for prime in (2, 7):
                one, other = shelf(prime), shelf(prime)
                one.limit = limit
                self.assertIsNone(other.set_limit(limit))
                self.assertTrue(same([one.limit, other.limit], [limit, limit]))
                self.assertEqual(one.history(), (4, 0))

    def test_wrong_values(self):
        book = shelf(limit=9)
        for value in [*ODD, *FAR, 0, 1, 6, -1, 21, 22]:
            self.assertTrue(same(told(self, book.set_limit, value), ("InvalidLimit", value)))
            self.assertTrue(same(told(self, setattr, book, "limit", value), ("InvalidLimit", value)))
            self.assertEqual(book.limit, 9)
        book = Book(2)
        for value in (0, -1, True, 21, None):
            self.assertTrue(same(told(self, book.set_limit, value), ("InvalidLimit", value)))
        book.limit = 1
        book.apply(("turner", "a", A))
        book.limit = 20
        book.limit = 1
        self.assertEqual(book.limit, 1)

    def test_no_part_of_a_step(self):
        book = Book(2)
        book.apply(("turner", "a", A))
        book.limit = 5
        book.undo()
        self.assertEqual(book.limit, 5)
        book.redo()
        self.assertEqual((book.limit, book.history()), (5, (1, 0)))
        book.set_limit(6)
        book.undo()
        book.set_limit(7)
        self.assertEqual(book.history(), (0, 1))

    def test_undo_and_redo_do_not_look_at_it(self):
        book = Book(2, limit=20)
        book.apply(*[("turner", name, A) for name in "abcdefghijklmnopqrst"])
        book.undo()
        book.limit = 1
        book.redo()
        self.assertEqual((len(book), book.limit), (20, 1))
        self.assertEqual(told(self, book.set_limit, 19), ("InvalidLimit", 19))
        self.assertEqual(told(self, book.set_limit, 1), ("InvalidLimit", 1))
        book.apply(*[("drop", name) for name in "abcdefghijklmnopqrs"])
        book.undo()
        self.assertEqual((len(book), book.limit), (20, 1))
        book.limit = 20


class Telling(unittest.TestCase):
    def test_names_by_kinds(self):
        book = shelf()
        self.assertTrue(same(book.names(), ["a", "b", "p", "w", "e", "v", "u"]))
        self.assertEqual(book.names("turner"), ["a", "b", "p"])
        self.assertEqual(book.names("word"), ["w", "e", "v", "u"])
        for kinds in (("word", "turner"), ("turner", "word", "x"), ("turner", "turner", "word")):
            self.assertEqual(book.names(*kinds), book.names())
        for kinds in (("x",), (None,), ("", 0), ("Turner",), ("turners",), (["turner"],), (("word",),), ("program",)):
            self.assertEqual(book.names(*kinds), [])
        self.assertEqual(book.names(None, "word", 5), book.names("word"))
        self.assertEqual([book.kind(name) for name in book.names()], ["turner"] * 3 + ["word"] * 4)

    def test_the_order_of_names(self):
        book = Book(2)
        for name in "zaym":
            book.apply(("turner", name, A))
        book.apply(("drop", "a"), ("turner", "a", A), ("rename", "z", "q"))
        self.assertEqual(book.names(), ["q", "y", "m", "a"])

    def test_texts(self):
        book = shelf()
        self.assertEqual([book.text_of(name) for name in ("a", "w", "e", "v", "u")],
                         [A, "a b' a", "", "w' p e w", "v' v v"])

    def test_letters(self):
        for prime in PRIMES:
            book = shelf(prime)
            for name in book.names():
                self.assertEqual(letter_texts(book, name), expanded(book, name))
                for item in book.letters(name):
                    self.assertIs(type(item), tuple)
                    self.assertIsInstance(item[0], Turner)
                    self.assertIs(type(item[1]), bool)
            a, b, p = (book.text_of(name) for name in "abp")
            self.assertEqual(letter_texts(book, "w"), [(a, False), (b, True), (a, False)])
            v = [(a, True), (b, False), (a, True), (p, False), (a, False), (b, True), (a, False)]
            self.assertEqual(letter_texts(book, "v"), v)
            undone = [(text, not back) for text, back in reversed(v)]
            self.assertEqual(letter_texts(book, "u"), undone + v + v)
            self.assertEqual(book.letters("e"), [])

    def test_what_is_told_may_be_changed(self):
        book = shelf()
        ahead = told_by(book)
        book.names().clear()
        book.names("word").append(1)
        book.letters("w").pop()
        book.letters("a").clear()
        book.kept().append("a")
        book.turner("a").states().clear()
        self.assertEqual(told_by(book), ahead)

    def test_turners_do_the_letters_one_by_one(self):
        for prime in PRIMES:
            book = shelf(prime)
            for name in book.names():
                if name != "u" or prime == 2:
                    turner = book.turner(name)
                    for setting in few_settings(prime, 60):
                        expected = setting
                        for letter, back in book.letters(name):
                            expected = letter.inverse()(expected) if back else letter(expected)
                        self.assertEqual(turner(setting), expected)

    def test_turners_are_the_products(self):
        for prime in PRIMES:
            book = shelf(prime)
            a, b = book.turner("a"), book.turner("b")
            self.assertEqual(book.turner("a"), Turner.read(book.text_of("a")))
            self.assertEqual(book.turner("w"), Turner.idle(prime) * a * b.inverse() * a)
            self.assertEqual(book.turner("e"), Turner.idle(prime))
            book.apply(("word", "x", "b"), ("word", "y", "b'"))
            self.assertEqual(book.turner("x"), Turner.idle(prime) * b)
            self.assertEqual(book.turner("y"), Turner.idle(prime) * b.inverse())

    def test_a_turner_as_it_is(self):
        # States that are not reached stay, other than in a product.
        book = Book(2)
        book.apply(("turner", "a", "2 2: 0 0,1; 1 1,1; 1 2,2"), ("word", "w", "a"))
        self.assertEqual((book.turner("a").text, book.turner("w").text), ("2 2: 0 0,1; 1 1,1; 1 2,2", "2 0: 1 0,0"))

    def test_too_many_states(self):
        book = Book(2)
        book.apply(("turner", "a", text_of_states(2, mixed(2, 16, 1))), ("turner", "b", text_of_states(2, mixed(2, 17, 2))),
                   ("word", "w", "a b a"), ("word", "v", "w w'"), ("word", "x", "a a'"), ("word", "y", ""))
        for name in ("w", "v"):
            self.assertEqual(told(self, book.turner, name), ("TooMany", 240))
            self.assertGreater(len(book.letters(name)), 2)
        self.assertEqual(book.turner("y"), Turner.idle(2))
        self.assertEqual(book.turner("x")((0, 1, 1, 0)), (0, 1, 1, 0))

    def test_unknown_names(self):
        book = shelf()
        for name in ABSENT:
            for call in (book.kind, book.text_of, book.letters, book.turner, book.verdict):
                self.assertTrue(same(told(self, call, name), ("UnknownName", name)))
            for dials in (0, -1, 5001, None):
                self.assertTrue(same(told(self, book.total, name, dials), ("UnknownName", name)))
        self.assertEqual(book.computed, 0)

    def test_in(self):
        book = shelf()
        for name in book.names():
            self.assertIs(name in book, True)
        for value in ABSENT:
            self.assertIs(value in book, False)
        self.assertIs(Turner.idle(2) in book, False)
        book.apply(("rename", "a", "zz"))
        self.assertEqual(("a" in book, "zz" in book), (False, True))
        book.undo()
        self.assertEqual(("a" in book, "zz" in book), (True, False))

    def test_len(self):
        book = Book(2)
        for many, name in enumerate("abcd"):
            self.assertEqual(len(book), many)
            book.apply(("word", name, ""))
        self.assertEqual(len(book), 4)


class Steps(unittest.TestCase):
    def test_steps_of_none_one_and_several(self):
        book = Book(2)
        self.assertIsNone(book.apply())
        self.assertEqual((book.history(), len(book)), ((1, 0), 0))
        self.assertIsNone(book.apply(("turner", "a", A)))
        book.apply(("turner", "b", B), ("word", "w", "a b'"), ("start", "a", 1))
        self.assertEqual((book.history(), len(book)), ((3, 0), 3))
        self.assertIsNone(book.undo())
        self.assertEqual((book.history(), book.names(), book.text_of("a")), ((2, 1), ["a"], A))
        book.undo()
        book.undo()
        self.assertEqual((book.history(), len(book)), ((0, 3), 0))
        self.assertIsNone(book.redo())
        book.redo()
        book.redo()
        self.assertEqual((book.history(), book.names()), ((3, 0), ["a", "b", "w"]))
        self.assertTrue(same(book.history(), (3, 0)))

    def test_nothing_left(self):
        book = Book(2)
        self.assertEqual(told(self, book.undo), ("NothingLeft",))
        self.assertEqual(told(self, book.redo), ("NothingLeft",))
        book.apply()
        self.assertEqual(told(self, book.redo), ("NothingLeft",))
        book.undo()
        self.assertEqual(told(self, book.undo), ("NothingLeft",))
        book.redo()
        self.assertEqual(told(self, book.redo), ("NothingLeft",))
        self.assertEqual(book.history(), (1, 0))

    def test_redo_until_another_step_is_made(self):
        for step in ((), (("turner", "c", A),)):
            book = Book(2)
            book.apply(("turner", "a", A))
            book.apply(("turner", "b", A))
            book.undo()
            book.undo()
            book.redo()
            book.apply(*step)
            self.assertEqual(book.history(), (2, 0))
            self.assertEqual(told(self, book.redo), ("NothingLeft",))
            self.assertEqual(book.names(), ["a"] + [command[1] for command in step])

    def test_a_step_that_raises_leaves_all(self):
        book = shelf()
        book.verdict("a")
        book.undo()
        ahead = told_by(book)
        twin = book.twin()
        for step in ((("drop", "zz"),), (("turner", "x", A), ("turner", "x", A)), (("word", "x", ""), None),
                     (("turn", "a", 0, 0), ("start", "b", 1), ("drop", "w"), ("drop", "a"), ("drop", "a")),
                     (("rename", "a", "c"), ("rename", "w", "d"), ("drop", "w"))):
            error = told(self, book.apply, *step)
            self.assertIn(error[0], ("UnknownName", "DuplicateName", "InvalidCommand"))
            self.assertEqual(told_by(book), ahead)
            self.assertIs(book.busy, False)
            self.assertEqual(book, twin)
        # The step that was taken back can still be made again.
        book.redo()
        self.assertEqual(len(book), 7)

    def test_busy_while_commands_are_applied(self):
        book, seen, done = Book(2), [], books.done

        def watched(*values):
            seen.append(book.busy)
            return done(*values)

        with mock.patch.object(books, "done", watched):
            book.apply(("turner", "a", A), ("word", "w", "a"))
            self.assertIs(book.busy, False)
            self.assertEqual(told(self, book.apply, ("drop", "w"), ("drop", "zz"), ("drop", "a")), ("UnknownName", "zz"))
        self.assertEqual((seen, book.busy), ([True] * 4, False))

    def test_the_first_error_counts(self):
        book = shelf()
        step = (("drop", "u"), ("start", "a", 5), ("drop", "zz"), None)
        for many in (2, 3, 4):
            self.assertEqual(told(self, book.apply, *step[:many]), ("UnknownState", 5))

    def test_commands_see_those_ahead_of_them(self):
        book = Book(2, limit=3)
        book.apply(("turner", "a", A), ("word", "w", "a"), ("rename", "a", "b"), ("turner", "a", B), ("turn", "a", 0, 1),
                   ("drop", "w"), ("word", "w", "a b"))
        self.assertEqual((book.names(), book.text_of("w"), book.text_of("b")), (["b", "a", "w"], "a b", A))
        self.assertEqual(book.history(), (1, 0))
        book.undo()
        self.assertEqual(len(book), 0)

    def test_undo_takes_a_whole_step_back(self):
        book = shelf()
        twin = book.twin()
        book.apply(("start", "a", 1), ("rename", "b", "c"), ("drop", "u"), ("turner", "x", A), ("turn", "a", 0, 0))
        self.assertNotEqual(book, twin)
        book.undo()
        self.assertEqual(book, twin)
        self.assertEqual(told_by(book)[:6], told_by(twin)[:6])

    def test_a_long_way_there_and_back(self):
        book = Book(3, limit=20)
        moves = [("turner", "a", Turner.idle(3).text), ("program", "b", "add 1"), ("word", "w", "a b'"), ("start", "b", 1),
                 ("turn", "a", 0, 2), ("rename", "a", "c"), ("word", "v", "w w'"), ("wire", "b", 0, 2, 0), ("drop", "v"),
                 ("rename", "c", "d"), ("drop", "w"), ("turner", "w", Turner.idle(3).text), ("drop", "d")]
        seen = [book.twin()]
        for move in moves:
            book.apply(move)
            seen.append(book.twin())
        for at in range(len(moves) - 1, -1, -1):
            book.undo()
            self.assertEqual(book, seen[at])
            self.assertEqual(book.history(), (at, len(moves) - at))
        for at in range(len(moves)):
            book.redo()
            self.assertEqual(book, seen[at + 1])
            self.assertEqual(told_by(book)[:6], told_by(seen[at + 1])[:6])


class Twins(unittest.TestCase):
    def test_they_are_equal(self):
        book = shelf(limit=9)
        book.verdict("a")
        book.verdict("w")
        book.undo()
        twin = book.twin()
        self.assertIs(type(twin), Book)
        self.assertIsNot(twin, book)
        self.assertEqual(told_by(twin), told_by(book))
        self.assertEqual(twin, book)
        twin.redo()
        twin.undo()
        twin.undo()
        self.assertEqual(twin.names(), ["a", "b", "p"])

    def test_they_go_apart(self):
        book = shelf()
        book.verdict("a")
        twin = book.twin()
        ahead = told_by(book)
        twin.apply(("start", "a", 1), ("drop", "u"))
        twin.verdict("w")
        twin.limit = 8
        self.assertEqual(told_by(book), ahead)
        self.assertEqual((twin.limit, len(twin), twin.history(), twin.computed), (8, 6, (5, 0), 2))
        ahead = told_by(twin)
        book.undo()
        book.undo()
        book.verdict("b")
        book.apply(("rename", "b", "c"))
        self.assertEqual(told_by(twin), ahead)
        twin.undo()
        self.assertEqual(len(twin), 7)

    def test_steps_of_their_own(self):
        book = shelf()
        book.undo()
        twin = book.twin()
        twin.redo()
        self.assertEqual((book.history(), twin.history()), ((3, 1), (4, 0)))
        book.apply()
        self.assertEqual((book.history(), twin.history()), ((4, 0), (4, 0)))
        book.undo()
        book.undo()
        self.assertEqual(twin.names(), ["a", "b", "p", "w", "e", "v", "u"])


class Equal(unittest.TestCase):
    def test_whatever_the_steps_limits_and_verdicts(self):
        one = shelf()
        other = Book(2, limit=7)
        for name in one.names():
            other.apply((one.kind(name), name, one.text_of(name)))
        self.assertTrue(one == other and not one != other)
        one.verdict("u")
        other.set_limit(15)
        self.assertTrue(one == other and other == one)
        one.apply(("turn", "a", 0, 0))
        self.assertTrue(one != other and not one == other)
        one.undo()
        self.assertTrue(one == other)

    def test_order_names_kinds_and_texts(self):
        def book(*commands, prime=2):
            made = Book(prime)
            made.apply(*commands)
            return made

        a, b = ("turner", "a", A), ("turner", "b", B)
        found = [book(), book(a), book(b), book(a, b), book(b, a), book(a, ("turner", "b", A)), book(("turner", "a", B)),
                 book(a, ("word", "b", "a")), book(a, ("word", "b", "a'")), book(a, ("word", "b", "")),
                 book(a, ("word", "c", "a")), book(("word", "a", "")), book(prime=3), book(("word", "a", ""), prime=3),
                 book(a, b, ("word", "w", "a b")), book(a, b, ("word", "w", "b a")), book(a, ("word", "b", "a a"))]
        for at, one in enumerate(found):
            for where, other in enumerate(found):
                self.assertIs(one == other, at == where)
                self.assertIs(one != other, at != where)
            self.assertEqual(one, one.twin())
        self.assertEqual(book(a), book(("program", "a", "add 1")))
        self.assertNotEqual(book(a), book(("turner", "a", A + "; 0 0,0")))

    def test_nothing_else(self):
        book = shelf()
        for value in [*ODD, *FAR, book.names(), Turner.idle(2), Book, told_by(book)]:
            self.assertIs(book == value, False)
            self.assertIs(book != value, True)


if __name__ == "__main__":
    unittest.main()
