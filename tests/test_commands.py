"""[17]: the commands of a book with right values and with each of their errors."""

import unittest

from lowturns.books import Book
from lowturns.programs import compiled
from lowturns.turners import Turner
from tests.samples import FAR, ODD, PRIMES, few_settings, ring, same, told
from tests.shelves import A, B, IDLE, shelf, text_of_states, told_by

ABSENT = [value for value in ODD] + FAR + ["zz", "A", "a ", "a'", "", ["a"], ("a",), 0, b"a"]
NO_NAMES = [value for value in ODD] + FAR + ["A", "abcdefghi", "a b", "a'", "a1", ["a"], ("a",), 0]
NO_STRINGS = [value for value in ODD if not isinstance(value, str)] + FAR + [0, 1, ["a"], (A,)]
ADDING = (("turner", A), ("program", "add 1"), ("word", "a"))


class Case(unittest.TestCase):
    def check(self, book, command, *expected):
        """Whether a command raises this error, as the first, last and only one of a step, and changes nothing."""
        ahead = told_by(book)
        for step in ((command,), (command, ("turner", "fresh", A)), (command, None), (("start", "a", 1), command)):
            self.assertTrue(same(told(self, book.apply, *step), expected), (command, expected))
            self.assertEqual(told_by(book), ahead)


class Forms(Case):
    def test_values_that_are_no_tuples(self):
        book = shelf()
        for value in [*ODD, *FAR, 0, "drop", ["drop", "a"], [], ["turner", "x", A], "turner x " + A]:
            if not isinstance(value, tuple):
                self.check(book, value, "InvalidCommand", None)

    def test_the_empty_tuple(self):
        self.check(shelf(), (), "InvalidCommand", None)

    def test_other_first_items(self):
        book = shelf()
        for word in [*ODD, *FAR, 0, "Turner", "turners", "add", "undo", "redo", "", "names", ["turner"], ("drop",)]:
            for rest in ((), ("a",), ("a", A), ("a", 0, 1), ("a", 0, 1, 0), ("a", 0, 1, 0, 1)):
                self.check(book, (word, *rest), "InvalidCommand", word)

    def test_other_numbers_of_items(self):
        sizes = {"turner": 3, "program": 3, "word": 3, "wire": 5, "turn": 4, "start": 3, "drop": 2, "rename": 3}
        book = shelf()
        for word, size in sizes.items():
            for many in range(8):
                if many + 1 != size:
                    for value in ("a", "none", None, 0, [1]):
                        self.check(book, (word,) + (value,) * many, "InvalidCommand", word)

    def test_ahead_of_all_other_errors_of_this_command(self):
        book = shelf()
        self.check(book, ("drop", "zz", 1), "InvalidCommand", "drop")
        # An earlier command of the step comes first.
        ahead = told_by(book)
        self.assertEqual(told(self, book.apply, ("drop", "zz"), None), ("UnknownName", "zz"))
        self.assertEqual(told(self, book.apply, ("drop", "w", 1), ("drop", "zz")), ("InvalidCommand", "drop"))
        self.assertEqual(told_by(book), ahead)

    def test_the_word_is_copied(self):
        word = ["x", ["y"]]
        try:
            shelf().apply((word, 1))
        except ValueError as error:
            word[1].append(2)
            self.assertEqual((error.word, error.details), (["x", ["y"]], (["x", ["y"]],)))


class Adding(Case):
    def test_turners(self):
        for prime in PRIMES:
            book = Book(prime)
            one = Turner(prime, ring(prime, 4, 1, turn=1), start=3)
            book.apply(("turner", "a", one.text))
            self.assertEqual((book.turner("a"), book.kind("a"), book.text_of("a")), (one, "turner", one.text))
            self.assertEqual(book.letters("a"), [(one, False)])

    def test_many_states(self):
        for many in (101, 239, 240):
            text = text_of_states(2, ring(2, many, many - 1), many - 1)
            book = Book(2)
            book.apply(("turner", "a", text))
            self.assertEqual((book.text_of("a"), len(book.turner("a"))), (text, many))
            self.assertIn(str(many - 1), text)
        wide = "2 0:" + ";".join([" 0 240,240"] * 241)
        book = shelf()
        for text in (wide, "2 00: 0 0,0", "2 0: 0 000,0", "2 0: 0 0,01", "2 1000: 0 0,0", "2 0: 0 0,0;", "2 0: 0 0,1"):
            self.check(book, ("turner", "x", text), "InvalidText")

    def test_programs(self):
        for prime in PRIMES:
            book = Book(prime)
            for at, text in enumerate(("", "add 7", f"times {1 + prime}; add -1", "mix 12; stir 1 2", "add 1; add 1")):
                name = "abcde"[at]
                book.apply(("program", name, text))
                self.assertEqual((book.turner(name), book.kind(name)), (compiled(prime, text), "turner"))
                self.assertEqual(book.text_of(name), compiled(prime, text).text)

    def test_words(self):
        book = shelf()
        for text in ("", "a", "a'", "a b' a", "w w' e v u", "e e e'"):
            book.apply(("word", "x", text))
            self.assertEqual((book.text_of("x"), book.kind("x")), (text, "word"))
            book.undo()

    def test_wrong_names(self):
        for book in (shelf(), shelf(limit=7)):
            for kind, _ in ADDING:
                for name in NO_NAMES:
                    for text in (A, "", None, "add x", "zz"):
                        self.check(book, (kind, name, text), "InvalidName", name)

    def test_names_in_use(self):
        for book in (shelf(), shelf(limit=7)):
            for kind, _ in ADDING:
                for name in book.names():
                    for text in (A, "", None, "add x", "zz"):
                        self.check(book, (kind, name, text), "DuplicateName", name)

    def test_full(self):
        for limit in (7, 8, 12, 19, 20):
            book = shelf(limit=limit)
            for at in range(limit - 7):
                book.apply(("turner", "n" + "abcdefghijklmnopqrst"[at], IDLE))
            self.assertEqual(len(book), limit)
            for kind, right in ADDING:
                for text in (right, None, "add x", "zz"):
                    self.check(book, (kind, "fresh", text), "Full", limit)

    def test_full_by_the_present_limit(self):
        book = Book(2, limit=2)
        book.apply(("turner", "a", A), ("turner", "b", A))
        self.check(book, ("turner", "c", A), "Full", 2)
        book.limit = 3
        self.check(book, ("turner", "a", A), "DuplicateName", "a")
        book.apply(("turner", "c", A))
        self.check(book, ("word", "d", "a"), "Full", 3)
        # In the middle of a step there may be room again.
        book.apply(("drop", "b"), ("word", "d", "a"))
        self.assertEqual(book.names(), ["a", "c", "d"])
        self.assertEqual(told(self, book.apply, ("drop", "d"), ("word", "d", ""), ("word", "e", "")), ("Full", 3))

    def test_more_names_than_the_limit(self):
        book = Book(2, limit=5)
        book.apply(*[("turner", name, A) for name in "abcde"])
        book.apply(*[("drop", name) for name in "abcd"])
        book.set_limit(2)
        book.undo()
        self.assertEqual((len(book), book.limit), (5, 2))
        self.check(book, ("turner", "x", A), "Full", 2)
        book.apply(("drop", "a"), ("drop", "b"))
        self.assertEqual(told(self, book.apply, ("word", "x", "")), ("Full", 2))
        book.apply(("drop", "c"), ("drop", "d"), ("word", "x", ""))
        self.assertEqual(book.names(), ["e", "x"])

    def test_wrong_texts_of_turners(self):
        book = shelf()
        for text in [*NO_STRINGS, "", " " + A, A + " ", A + "\n", "2 0: 2 0,0", "2 1: 0 0,0", "4 0: 0 0,0,0,0", "2 0:",
                     "a", "add 1", "2 0: 0 0,0; ", "3 0: 0 0,0"]:
            self.check(book, ("turner", "x", text), "InvalidText")

    def test_primes_differ(self):
        for prime in PRIMES:
            book = shelf(prime)
            for other in PRIMES:
                if other != prime:
                    self.check_other(book, ("turner", "x", Turner.idle(other).text), "PrimesDiffer")
            book.apply(("turner", "x", Turner.idle(prime).text))

    def check_other(self, book, command, *expected):
        """As check, for a book of any prime."""
        ahead = told_by(book)
        self.assertEqual(told(self, book.apply, command), expected)
        self.assertEqual(told_by(book), ahead)

    def test_wrong_programs(self):
        book = shelf()
        for text in NO_STRINGS:
            self.check(book, ("program", "x", text), "InvalidText")
        self.check(book, ("program", "x", "add 1; add x"), "InvalidLine", 1)
        self.check(book, ("program", "x", " add 1"), "InvalidLine", 0)
        self.check(book, ("program", "x", "add 1; times 2"), "NotATurn", 1)
        self.check(book, ("program", "x", "mix 1; mix 2; stir 0 9"), "LooksUp", 2)
        self.check(book, ("program", "x", "stir 1 4"), "InvalidLine", 0)
        self.check(book, ("program", "x", "times 999; add y"), "TooMany", 240)
        self.check(book, ("program", "x", "times 9; times 19; times 29"), "TooMany", 240)

    def test_the_prime_of_the_book_counts(self):
        book = shelf(3)
        book.apply(("program", "x", "times 4"))
        self.check_other(book, ("program", "y", "times 3"), "NotATurn", 0)
        self.check_other(shelf(5), ("program", "y", "times 4"), "NotATurn", 0)

    def test_wrong_texts_of_words(self):
        book = shelf()
        for text in [*NO_STRINGS, " ", " a", "a ", "a  b", "a''", "'", "A", "abcdefghi", "zz a  b", "zz A", "a\n"]:
            self.check(book, ("word", "x", text), "InvalidText")

    def test_unknown_names_in_words(self):
        book = shelf()
        for text, name in (("zz", "zz"), ("a zz' yy", "zz"), ("yy' zz", "yy"), ("x", "x"), ("a x", "x"),
                           ("u " * 100 + "zz", "zz")):
            self.check(book, ("word", "x", text), "UnknownName", name)

    def test_letters_in_all(self):
        book = Book(2, limit=20)
        book.apply(("turner", "a", A), ("word", "e", ""), ("word", "t", "a " * 9 + "a'"))
        for text, many in (("a " * 199 + "a", 200), ("t " * 19 + "t'", 200), ("t " * 18 + "t " + "a " * 9 + "e e' a", 200),
                           ("e " * 5000 + "a", 1)):
            book.apply(("word", "x", text))
            self.assertEqual((len(book.letters("x")), book.text_of("x")), (many, text))
            self.check(book, ("word", "y", "x" + " a" * (201 - many)), "TooMany", 200)
            book.apply(("word", "y", "x" + " a" * (200 - many)))
            self.assertEqual(len(book.letters("y")), 200)
            self.check(book, ("word", "z", "y a"), "TooMany", 200)
            self.check(book, ("word", "z", "y y'"), "TooMany", 200)
            book.apply(("word", "z", "y e e'"))
            self.assertEqual(len(book.letters("z")), 200)
            book.undo()
            book.undo()
            book.undo()
        self.check(book, ("word", "x", "a " * 200 + "a"), "TooMany", 200)
        self.check(book, ("word", "x", "t " * 20 + "a"), "TooMany", 200)
        self.check(book, ("word", "x", "a " * 200 + "zz"), "UnknownName", "zz")

    def test_long_words_of_long_words(self):
        book = Book(2, limit=20)
        book.apply(("word", "a", ""))
        for at in range(1, 20):
            here, below = "abcdefghijklmnopqrst"[at], "abcdefghijklmnopqrst"[at - 1]
            book.apply(("word", here, f"{below}' " * 3000 + below))
            self.assertEqual(book.letters(here), [])


class Changing(Case):
    def test_wire(self):
        for prime in PRIMES:
            for state in (0, 2):
                for figure in (0, prime - 1):
                    for target in (0, 1, 2):
                        book = Book(prime)
                        states = [(at % prime, (at,) * prime) for at in range(3)]
                        book.apply(("turner", "a", text_of_states(prime, states, 1)))
                        ahead = book.turner("a")
                        book.apply(("wire", "a", state, figure, target))
                        turn, targets = states[state]
                        targets = targets[:figure] + (target,) + targets[figure + 1:]
                        expected = states[:state] + [(turn, targets)] + states[state + 1:]
                        self.assertEqual(book.turner("a"), Turner(prime, expected, start=1))
                        self.assertEqual(ahead, Turner(prime, states, start=1))

    def test_turn(self):
        for prime in PRIMES:
            for state in (0, 2):
                for figure in (0, 1, prime - 1):
                    book = Book(prime)
                    states = [(at % prime, (at, 2) + (0,) * (prime - 2)) for at in range(3)]
                    book.apply(("turner", "a", text_of_states(prime, states, 2)))
                    ahead = book.turner("a")
                    book.apply(("turn", "a", state, figure))
                    expected = states[:state] + [(figure, states[state][1])] + states[state + 1:]
                    self.assertEqual(book.turner("a"), Turner(prime, expected, start=2))
                    self.assertEqual(ahead, Turner(prime, states, start=2))

    def test_start(self):
        for prime in PRIMES:
            for state in (0, 1, 2):
                book = Book(prime)
                one = Turner(prime, ring(prime, 3, turn=1), start=1)
                book.apply(("turner", "a", one.text))
                ahead = book.turner("a")
                book.apply(("start", "a", state))
                self.assertEqual(book.turner("a"), one.started(state))
                self.assertEqual(ahead.start, 1)

    def test_they_keep_the_place_and_change_words(self):
        book = shelf()
        names, turner = book.names(), book.turner("b")
        for command in (("wire", "b", 0, 1, 1), ("turn", "b", 1, 0), ("start", "b", 0)):
            book.apply(command)
            self.assertEqual(book.names(), names)
            self.assertNotEqual(book.turner("b"), turner)
            self.assertEqual(book.letters("w"), [(book.turner("a"), False), (book.turner("b"), True),
                                                 (book.turner("a"), False)])
            turner = book.turner("b")

    def test_unknown_names(self):
        book = shelf()
        for name in ABSENT:
            for rest in ((0, 0, 0), (0, 0), (0,), (None, True, "x"), (9, 9), ("y",)):
                word = {3: "wire", 2: "turn", 1: "start"}[len(rest)]
                self.check(book, (word, name, *rest), "UnknownName", name)

    def test_words_are_of_the_wrong_kind(self):
        book = shelf()
        for name in ("w", "e", "u"):
            for command in (("wire", name, 0, 0, 0), ("wire", name, None, 5, "x"), ("turn", name, 9, 9),
                            ("turn", name, 0, 0), ("start", name, 0), ("start", name, [])):
                self.check(book, command, "WrongKind", name)

    def test_unknown_states(self):
        book = shelf()
        for state in [*ODD, *FAR, -1, 2, 240]:
            self.check(book, ("start", "b", state), "UnknownState", state)
            for figure in (0, 2, None):
                self.check(book, ("turn", "b", state, figure), "UnknownState", state)
                for target in (0, 2, None):
                    self.check(book, ("wire", "b", state, figure, target), "UnknownState", state)

    def test_invalid_figures(self):
        book = shelf()
        for figure in [*ODD, *FAR, -1, 2, 3]:
            self.check(book, ("turn", "b", 1, figure), "InvalidFigure", figure)
            for target in (0, 2, None):
                self.check(book, ("wire", "b", 1, figure, target), "InvalidFigure", figure)

    def test_unknown_targets(self):
        book = shelf()
        for target in [*ODD, *FAR, -1, 2, 240]:
            self.check(book, ("wire", "b", 1, 1, target), "UnknownState", target)

    def test_bounds_of_great_turners(self):
        book = Book(7)
        book.apply(("turner", "a", text_of_states(7, ring(7, 240))))
        book.apply(("wire", "a", 239, 6, 239), ("turn", "a", 239, 6), ("start", "a", 239))
        turner = book.turner("a")
        self.assertEqual((turner.start, turner.turn(239), turner.target(239, 6), turner.target(239, 5)),
                         (239, 6, 239, 0))
        for command, error in ((("wire", "a", 240, 0, 0), ("UnknownState", 240)),
                               (("wire", "a", 0, 7, 0), ("InvalidFigure", 7)),
                               (("wire", "a", 0, 0, 240), ("UnknownState", 240)),
                               (("turn", "a", 240, 7), ("UnknownState", 240)),
                               (("turn", "a", 0, 7), ("InvalidFigure", 7)),
                               (("start", "a", 240), ("UnknownState", 240))):
            self.assertEqual(told(self, book.apply, command), error)


class Dropping(Case):
    def test_drop(self):
        book = shelf()
        for name in ("u", "v", "e", "w", "p", "b", "a"):
            self.assertIn(name, book)
            book.apply(("drop", name))
            self.assertNotIn(name, book)
        self.assertEqual((book.names(), len(book)), ([], 0))

    def test_in_use(self):
        book = shelf()
        for name, user in (("a", "w"), ("b", "w"), ("w", "v"), ("v", "u"), ("e", "v"), ("p", "v")):
            self.check(book, ("drop", name), "InUse", user)

    def test_the_least_user(self):
        book = Book(2)
        book.apply(("turner", "n", A), ("word", "z", "n"), ("word", "ba", "n' n"), ("word", "m", "z"), ("word", "b", "n"))
        # A word of a word has no letter with this name.
        self.assertEqual(told(self, book.apply, ("drop", "n")), ("InUse", "b"))
        book.apply(("drop", "b"))
        self.assertEqual(told(self, book.apply, ("drop", "n")), ("InUse", "ba"))
        book.apply(("drop", "ba"))
        self.assertEqual(told(self, book.apply, ("drop", "n")), ("InUse", "z"))
        self.assertEqual(told(self, book.apply, ("drop", "z")), ("InUse", "m"))
        book.apply(("drop", "m"), ("drop", "z"), ("drop", "n"))
        self.assertEqual(len(book), 0)

    def test_unknown(self):
        book = shelf()
        for name in ABSENT:
            self.check(book, ("drop", name), "UnknownName", name)


class Renaming(Case):
    def test_rename(self):
        book = shelf()
        names = book.names()
        for at, (name, fresh) in enumerate(zip("abpwevu", ("one", "two", "abcdefgh", "four", "five", "six", "z"))):
            ahead = {one: [(turner.text, back) for turner, back in book.letters(one)] for one in book.names()}
            kinds = [book.kind(one) for one in book.names()]
            book.apply(("rename", name, fresh))
            names[at] = fresh
            self.assertEqual(book.names(), names)
            self.assertEqual([book.kind(one) for one in names], kinds)
            self.assertNotIn(name, book)
            ahead[fresh] = ahead.pop(name)
            for one in names:
                self.assertEqual([(turner.text, back) for turner, back in book.letters(one)], ahead[one])
        self.assertEqual([book.text_of(one) for one in names[3:]],
                         ["one two' one", "", "four' abcdefgh five four", "six' six six"])

    def test_a_word_with_the_name_undone_and_twice(self):
        book = Book(2)
        book.apply(("turner", "a", A), ("turner", "aa", A), ("word", "w", "a a' aa a aa'"))
        book.apply(("rename", "a", "b"))
        self.assertEqual(book.text_of("w"), "b b' aa b aa'")
        book.apply(("rename", "aa", "a"), ("rename", "b", "aa"), ("rename", "w", "b"))
        self.assertEqual((book.text_of("b"), book.names()), ("aa aa' a aa a'", ["aa", "a", "b"]))

    def test_errors(self):
        book = shelf()
        for name in ABSENT:
            for fresh in ("fresh", "a", "A", None):
                self.check(book, ("rename", name, fresh), "UnknownName", name)
        for name in ("a", "w"):
            for fresh in NO_NAMES:
                self.check(book, ("rename", name, fresh), "InvalidName", fresh)
            for fresh in book.names():
                self.check(book, ("rename", name, fresh), "DuplicateName", fresh)

    def test_in_a_full_book(self):
        book = shelf(limit=7)
        book.apply(("rename", "a", "fresh"), ("turn", "fresh", 0, 0))
        self.assertEqual(book.names()[0], "fresh")


class Orders(Case):
    def test_two_wrong_at_once(self):
        full = Book(2, limit=1)
        full.apply(("turner", "a", A))
        for kind in ("turner", "program", "word"):
            for name, error in (("A", ("InvalidName", "A")), ("a", ("DuplicateName", "a")), ("b", ("Full", 1))):
                for text in (None, "zz", "add x", " ", "3 0: 0 0,0,0"):
                    self.assertEqual(told(self, full.apply, (kind, name, text)), error)
        book = shelf()
        for command, error in (
                (("turner", "x", "3 0: 9 0,0,0"), ("InvalidText",)),
                (("program", "x", "add 1; add x; times 2"), ("InvalidLine", 1)),
                (("program", "x", "times 2; add x"), ("NotATurn", 0)),
                (("word", "x", "zz  a"), ("InvalidText",)),
                (("word", "x", "zz " + "u " * 90 + "yy"), ("UnknownName", "zz")),
                (("wire", "zz", 9, 9, 9), ("UnknownName", "zz")),
                (("wire", "w", 9, 9, 9), ("WrongKind", "w")),
                (("wire", "a", 9, 9, 8), ("UnknownState", 9)),
                (("wire", "a", 0, 9, 8), ("InvalidFigure", 9)),
                (("wire", "a", 0, 0, 8), ("UnknownState", 8)),
                (("turn", "zz", 9, 9), ("UnknownName", "zz")),
                (("turn", "w", 9, 9), ("WrongKind", "w")),
                (("turn", "a", 9, 8), ("UnknownState", 9)),
                (("start", "zz", 9), ("UnknownName", "zz")),
                (("start", "w", 9), ("WrongKind", "w")),
                (("rename", "zz", "A"), ("UnknownName", "zz")),
                (("rename", "a", "A"), ("InvalidName", "A"))):
            self.check(book, command, *error)

    def test_commands_are_not_changed(self):
        book = Book(2)
        command = ("turner", "a", A)
        book.apply(command, ("turner", "b", B))
        self.assertEqual(command, ("turner", "a", A))

    def test_they_do_what_their_turners_do(self):
        for prime in PRIMES:
            book = shelf(prime)
            for name in ("a", "b", "p"):
                turner = Turner.read(book.text_of(name))
                for setting in few_settings(prime, 30):
                    self.assertEqual(book.turner(name)(setting), turner(setting))


if __name__ == "__main__":
    unittest.main()
