"""[12], [19]: totals and verdicts of entries, and which verdicts are kept."""

import unittest

from lowturns.books import Book
from lowturns.counts import total
from lowturns.errors import TooMany
from lowturns.rounds import decide
from lowturns.turners import Turner
from tests.samples import FAR, ODD, PRIMES, counter, mixed, row, same, told, tried
from tests.shelves import A, B, IDLE, expanded, shelf

COUNTER3 = counter(3).text


def filled(prime, turners, **words):
    """A book with the turners a, b, c .. and words."""
    book = Book(prime, limit=20)
    book.apply(*[("turner", name, turner.text) for name, turner in zip("abcdefghijklmnopqrs", turners)])
    book.apply(*[("word", name, text) for name, text in words.items()])
    return book


def by_letters(book, name, dials):
    """The total by the last sentence of [12]."""
    return sum(-total(turner, dials) if back else total(turner, dials) for turner, back in book.letters(name)) % book.prime


def product_of(book, name):
    """The product of an entry, or None where it cannot be made."""
    try:
        return book.turner(name)
    except TooMany:
        return None


def verdict_of(turner):
    """The verdict of a turner, or None if too many counts of its own are gone through."""
    try:
        return decide(turner, most=5000).told()
    except TooMany:
        return None


def words_of(many):
    """Texts of words of the letters a to d."""
    texts = ["", "a", "a'", "a a", "a a'", "b a'", "c' b' a'", "d a b c", "a b' c d' a", "c c c c c c c"]
    return {"vwxyz"[at % 5] * (at // 5 + 1): text for at, text in enumerate(texts[:many])}


class Totals(unittest.TestCase):
    def test_of_products_and_inverses(self):
        for prime in PRIMES:
            found = tried(prime)
            for at, one in enumerate(found):
                other = found[(at * 5 + 2) % len(found)]
                for dials in (0, 1, 2, 3, 9):
                    self.assertEqual(total(one * other, dials), (total(one, dials) + total(other, dials)) % prime)
                    self.assertEqual(total(one.inverse(), dials), -total(one, dials) % prime)

    def test_against_the_product(self):
        for prime in PRIMES:
            found = tried(prime)
            for at in range(0, len(found) - 4, 3):
                book = filled(prime, found[at:at + 4], **words_of(10))
                made = 0
                for name in book.names():
                    product = product_of(book, name)
                    made += product is not None
                    for dials in (0, 1, 2, 3, 4, 11):
                        self.assertTrue(same(book.total(name, dials), by_letters(book, name, dials)))
                        if product is not None:
                            self.assertEqual(book.total(name, dials), total(product, dials))
                self.assertGreater(made, 8)

    def test_words_of_words(self):
        for prime in PRIMES:
            book = shelf(prime)
            for name in book.names():
                for dials in (0, 1, 2, 5):
                    self.assertEqual(book.total(name, dials), by_letters(book, name, dials))

    def test_by_hand(self):
        book = filled(5, [Turner(5, [(3, (0,) * 5)]), counter(5)], w="a a a' b", v="w' a", e="", u="v v' e")
        self.assertTrue(same([book.total(name, 0) for name in ("a", "b", "w", "v", "e", "u")], [3, 1, 4, 4, 0, 0]))
        self.assertTrue(same([book.total(name, 1) for name in ("a", "b", "w", "v", "e", "u")], [0, 1, 1, 4, 0, 0]))

    def test_no_product_is_made(self):
        turners = [Turner(2, mixed(2, 100, seed)) for seed in range(6)]
        book = filled(2, turners, w="a b c d e f", v="w w' w a")
        for name in ("w", "v"):
            self.assertEqual(told(self, book.turner, name), ("TooMany", 240))
            for dials in (0, 1, 7):
                self.assertEqual(book.total(name, dials), by_letters(book, name, dials))

    def test_bounds_of_dials(self):
        book = shelf(3)
        for name in book.names():
            for dials in (4999, 5000):
                self.assertEqual(book.total(name, dials), by_letters(book, name, dials))
            for dials in [*ODD, *FAR, -1, 5001, 5002]:
                self.assertTrue(same(told(self, book.total, name, dials), ("InvalidCount", dials)))
        self.assertEqual(told(self, book.total, "zz", -1), ("UnknownName", "zz"))
        self.assertTrue(same(book.total(dials=5000, name="e"), 0))


class Verdicts(unittest.TestCase):
    def test_against_the_product(self):
        for prime in PRIMES:
            found = tried(prime)
            kinds = set()
            for at in range(0, len(found) - 4, 3):
                book = filled(prime, found[at:at + 4], **words_of(10))
                for name in book.names():
                    product = product_of(book, name)
                    expected = None if product is None else verdict_of(product)
                    if expected is not None:
                        self.assertTrue(same(book.verdict(name), expected))
                        kinds.add(expected)
            self.assertGreater(len(kinds), 2)

    def test_by_hand(self):
        book = shelf()
        self.assertEqual([book.verdict(name) for name in ("a", "e")], ["single", "split at 1 dials"])
        book.apply(("turner", "s", "2 0: 1 1,1; 0 1,1"), ("word", "x", "a a"), ("word", "y", "a a a'"))
        self.assertEqual([book.verdict(name) for name in ("s", "x", "y")],
                         ["split at 2 dials", "split at 1 dials", "single"])

    def test_unlike_primes_of_letters_and_of_totals(self):
        # 1 + 1 = 2 and 2 + 1 = 0 modulo 3, but not modulo 5.
        for prime, expected in ((3, "split at 3 dials"), (5, "single")):
            book = filled(prime, [row(prime, [1, 1, 2, 1], 3), counter(prime)], w="a b")
            self.assertEqual(book.verdict("w"), expected)

    def test_side_by_side(self):
        # 1 ahead, and rings of 27 and 74.
        book = filled(3, [row(3, [1] * 28, 1), row(3, [1] * 75, 1), row(3, [1] * 29, 2), row(3, [1] * 30, 3)],
                      w="a b", x="c b", y="d b", z="c d' d b b'", v="d b b b'", u="d' b'")
        for name, expected in (("a", "single"), ("b", "single"), ("w", "single"), ("x", "single"),
                               ("y", None), ("z", None), ("v", None), ("u", None)):
            if expected is None:
                ahead = (book.kept(), book.computed)
                for _ in range(2):
                    self.assertEqual(told(self, book.verdict, name), ("TooMany", 2000))
                self.assertEqual((book.kept(), book.computed), ahead)
            else:
                self.assertEqual(book.verdict(name), expected)
        self.assertEqual((book.kept(), book.computed), (["a", "b", "w", "x"], 4))

    def test_counts_of_letters_without_effect(self):
        # The totals are those of a alone, but the counts of the others must come again, too.
        book = filled(3, [counter(3), row(3, [1] * 30, 3), row(3, [1] * 75, 1)], w="a b b' c c'", v="a b b'", u="a c' c")
        self.assertEqual(told(self, book.verdict, "w"), ("TooMany", 2000))
        self.assertEqual([book.verdict(name) for name in ("u", "v")], ["single", "single"])

    def test_split_at_the_last_counts(self):
        for ahead, expected in ((20, "split at 2000 dials"), (21, None)):
            sides = []
            for ring in (44, 45):
                turns = [1] * (ahead + ring)
                turns[ahead + 1979 % ring] = 0
                sides.append(row(3, turns, ahead))
            book = filled(3, sides, w="a b", v="b' a'")
            for name in ("w", "v"):
                if expected is None:
                    self.assertEqual(told(self, book.verdict, name), ("TooMany", 2000))
                else:
                    self.assertEqual(book.verdict(name), expected)
            self.assertEqual(book.computed, 2 if expected else 0)

    def test_many_letters(self):
        book = filled(7, [counter(7), Turner(7, mixed(7, 40, 1))], w="a " * 99 + "a", v="w w'", u="w w", t="w b' a")
        # 100 and 200 are 2 and 4 modulo 7.
        self.assertEqual([book.verdict(name) for name in ("w", "v", "u")], ["single", "split at 1 dials", "single"])
        self.assertEqual(book.total("u", 3), 4)
        found = [by_letters(book, "t", dials) for dials in range(50)]
        self.assertEqual(book.verdict("t"), f"split at {found.index(0) + 1} dials" if 0 in found else "single")


class Counted(unittest.TestCase):
    def test_computed_once(self):
        book = shelf()
        for many, name in enumerate(("u", "a", "w", "e")):
            self.assertTrue(same(book.computed, many))
            found = book.verdict(name)
            self.assertEqual([book.verdict(name), book.verdict(name)], [found, found])
        self.assertTrue(same([book.computed, book.kept()], [4, ["a", "e", "u", "w"]]))
        book.total("b", 3)
        book.letters("b")
        self.assertEqual(book.computed, 4)

    def test_unknown_names_are_not_counted(self):
        book = shelf()
        self.assertEqual(told(self, book.verdict, "zz"), ("UnknownName", "zz"))
        self.assertEqual((book.computed, book.kept()), (0, []))

    def test_undo_does_not_take_the_count_back(self):
        book = shelf()
        book.verdict("u")
        book.undo()
        self.assertEqual((book.computed, book.kept()), (1, []))
        book.redo()
        self.assertEqual(book.kept(), [])
        book.verdict("u")
        self.assertEqual(book.computed, 2)

    def test_twins_have_their_own(self):
        book = shelf()
        book.verdict("a")
        twin = book.twin()
        twin.verdict("a")
        twin.verdict("b")
        self.assertEqual((book.kept(), book.computed, twin.kept(), twin.computed), (["a"], 1, ["a", "b"], 2))
        book.apply(("turn", "a", 0, 0))
        book.verdict("w")
        self.assertEqual((book.kept(), book.computed, twin.kept(), twin.computed), (["w"], 2, ["a", "b"], 2))
        twin.apply(("start", "b", 0))
        self.assertEqual((twin.kept(), twin.twin().kept(), twin.twin().computed), (["a"], ["a"], 2))


class Kept(unittest.TestCase):
    def setUp(self):
        self.book = Book(2, limit=20)
        self.book.apply(("turner", "a", A), ("turner", "b", B), ("turner", "c", A), ("word", "w", "a b'"),
                        ("word", "x", "w' c"), ("word", "e", ""), ("word", "y", "a"))
        self.ask()

    def ask(self):
        """Ask for all verdicts."""
        for name in self.book.names():
            self.book.verdict(name)

    def check(self, lost, *commands):
        """A step loses just these verdicts, and so do its undo and its redo, of the names that are there then."""
        book, names = self.book, self.book.names()
        book.apply(*commands)
        self.assertEqual(book.kept(), sorted(set(names) - set(lost.split())))
        self.ask()
        behind = book.names()
        book.undo()
        self.assertEqual(book.kept(), sorted(set(names) & set(behind) - set(lost.split())))
        self.ask()
        many = book.computed
        book.redo()
        self.assertEqual(book.kept(), sorted(set(names) & set(behind) - set(lost.split())))
        self.assertEqual(book.computed, many)
        book.undo()
        self.ask()

    def test_nothing_is_lost_without_commands(self):
        self.check("")

    def test_changes(self):
        self.check("a w x y", ("turn", "a", 0, 0))
        self.check("b w x", ("start", "b", 0))
        self.check("c x", ("wire", "c", 1, 0, 0))

    def test_changes_that_change_nothing(self):
        self.check("", ("turn", "a", 0, 1), ("start", "b", 1), ("wire", "c", 0, 1, 0))
        self.check("", ("turn", "a", 0, 0), ("turn", "a", 0, 1))

    def test_the_same_function_is_not_an_equal_turner(self):
        # The two states of this one are numbered the other way round.
        self.check("c x", ("drop", "x"), ("drop", "c"), ("turner", "c", "2 1: 0 0,0; 1 0,1"), ("word", "x", "w' c"))
        self.check("c x", ("drop", "x"), ("drop", "c"), ("turner", "c", A + "; 0 0,0"), ("word", "x", "w' c"))

    def test_other_names_of_letters(self):
        self.check("a", ("rename", "a", "z"))
        self.check("w", ("rename", "w", "z"))
        self.check("a b e", ("rename", "a", "aa"), ("rename", "b", "bb"), ("rename", "e", "ee"))

    def test_names_that_change_places(self):
        # a and c are equal turners; a and b are not.
        self.check("", ("rename", "a", "z"), ("rename", "c", "a"), ("rename", "z", "c"))
        self.check("a b", ("rename", "a", "z"), ("rename", "b", "a"), ("rename", "z", "b"))

    def test_other_letters_with_equal_turners(self):
        self.check("", ("drop", "y"), ("word", "y", "c"))
        self.check("", ("drop", "x"), ("word", "x", "b a' a"))
        self.check("", ("drop", "x"), ("word", "x", "w' e c e'"))
        self.check("x", ("drop", "x"), ("word", "x", "w' c e c"))
        self.check("x", ("drop", "x"), ("word", "x", "c w'"))
        self.check("x", ("drop", "x"), ("word", "x", "b a' a'"))
        self.check("y", ("drop", "y"), ("word", "y", "a'"))
        self.check("e", ("drop", "e"), ("word", "e", "a a'"))

    def test_a_turner_and_a_word_of_it(self):
        self.check("", ("drop", "y"), ("turner", "y", A))
        self.check("", ("drop", "x"), ("drop", "c"), ("word", "c", "a"), ("word", "x", "w' c"))
        self.check("e", ("drop", "e"), ("turner", "e", IDLE))

    def test_dropped_and_added(self):
        self.check("y", ("drop", "y"))
        self.check("", ("drop", "y"), ("word", "y", "a"))
        self.book.apply(("drop", "y"))
        self.assertEqual(self.book.kept(), ["a", "b", "c", "e", "w", "x"])
        self.book.apply(("word", "y", "a"))
        self.assertEqual(self.book.kept(), ["a", "b", "c", "e", "w", "x"])
        self.book.undo()
        self.book.undo()
        self.assertEqual(self.book.kept(), ["a", "b", "c", "e", "w", "x"])

    def test_steps_of_their_own(self):
        self.book.apply(("turn", "b", 0, 1))
        self.book.apply(("turn", "b", 0, 0))
        self.assertEqual(self.book.kept(), ["a", "c", "e", "y"])
        self.book.undo()
        self.book.undo()
        self.assertEqual(self.book.kept(), ["a", "c", "e", "y"])

    def test_a_step_that_raises(self):
        ahead = (self.book.kept(), self.book.computed)
        self.assertEqual(told(self, self.book.apply, ("turn", "a", 0, 0), ("drop", "a"))[0], "InUse")
        self.assertEqual((self.book.kept(), self.book.computed), ahead)

    def test_limits_have_no_effect(self):
        ahead = (self.book.kept(), self.book.computed)
        self.book.limit = 7
        self.assertEqual((self.book.kept(), self.book.computed), ahead)

    def test_long_ways(self):
        """Many steps, undos and redos, against [19] straight from the texts."""
        for prime in (2, 3):
            book = shelf(prime)
            number = 11
            moves = 0
            for _ in range(700):
                number = (number * 6364136223846793005 + 1442695040888963407) % 2 ** 64
                drawn = number >> 20
                ahead = {name: expanded(book, name) for name in book.names()}
                kept, many = book.kept(), book.computed
                if self.moved(book, drawn):
                    moves += 1
                    behind = {name: expanded(book, name) for name in book.names()}
                    expected = [name for name in kept if name in behind and behind[name] == ahead[name]]
                    self.assertEqual(book.kept(), expected)
                    self.assertEqual(book.computed, many)
                for name in book.names()[drawn % 3::3]:
                    missing = name not in book.kept()
                    many = book.computed
                    book.verdict(name)
                    self.assertEqual(book.computed, many + missing)
            self.assertGreater(moves, 250)

    def moved(self, book, drawn):
        """Whether a drawn step, undo or redo was made."""
        names = book.names() + ["n"]
        name, other = names[drawn // 7 % len(names)], names[drawn // 91 % len(names)]
        fresh = "nmop"[drawn // 5 % 4]
        prime = book.prime
        steps = [[("turn", name, 0, drawn // 3 % prime)], [("start", name, drawn // 3 % 2)],
                 [("wire", name, 0, 1, drawn // 3 % 2)], [("rename", name, fresh)], [("drop", name)],
                 [("word", fresh, f"{name} {other}'")], [("turner", fresh, book.text_of("a") if "a" in book else "")],
                 [("rename", name, fresh), ("rename", other, name), ("rename", fresh, other)],
                 [("drop", name), ("word", name, other)], [("drop", name), ("turner", name, counter(prime).text)]]
        try:
            if drawn % 13 < 2:
                book.undo()
            elif drawn % 13 == 2:
                book.redo()
            else:
                book.apply(*steps[drawn // 13 % len(steps)])
        except (ValueError, LookupError):
            return False
        return True


if __name__ == "__main__":
    unittest.main()
