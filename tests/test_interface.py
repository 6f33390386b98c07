"""The interface of the whole program: names, parameters, places, and the kinds of what is told."""

import importlib
import inspect
import unittest

from lowturns.books import Book
from lowturns.counts import first_counts, next_counts, total, turn_total
from lowturns.desk import Desk
from lowturns.figures import is_setting, number_of, setting_of, settings
from lowturns.pages import read_page, write_page
from lowturns.parting import alike_states, first_difference, is_same, least, reached
from lowturns.programs import affine, compiled, mixing, stirring
from lowturns.relabel import Match, Relabelling, match, relabel
from lowturns.rounds import Answer, Single, Split, decide
from lowturns.still import agree_count, first_still, still_count, still_depth
from lowturns.turners import Turner
from lowturns.walks import place_of, round_length, round_lengths, round_of, setting_at
from lowturns.words import is_name, read_word, word_text
from tests.samples import counter, same
from tests.shelves import A, B, shelf

# Parameters with a star ahead are keyword-only ones or any number of them; with a sign = they have a default.
FUNCTIONS = {
    "figures": {"is_setting": "prime value", "number_of": "prime setting", "setting_of": "prime number dials",
                "settings": "prime dials"},
    "parting": {"reached": "turner", "alike_states": "turner", "least": "turner", "first_difference": "one other",
                "is_same": "one other"},
    "programs": {"affine": "prime factor number", "mixing": "prime number", "stirring": "prime one other",
                 "compiled": "prime text"},
    "counts": {"first_counts": "turner", "next_counts": "turner counts", "turn_total": "turner counts",
               "total": "turner dials"},
    "rounds": {"decide": "turner *most=2000"},
    "walks": {"round_of": "turner setting", "round_length": "turner setting", "round_lengths": "turner dials",
              "place_of": "turner setting", "setting_at": "turner dials place"},
    "still": {"still_count": "turner dials", "agree_count": "one other dials", "still_depth": "turner",
              "first_still": "turner dials"},
    "relabel": {"relabel": "one other dials *chosen=()", "match": "one other *most=2000"},
    "words": {"is_name": "value", "read_word": "text", "word_text": "letters"},
    "pages": {"write_page": "book", "read_page": "text"},
}
CLASSES = {
    "turners": {"Turner": ("prime states *start=0", {
        "idle": "prime", "read": "text", "states": "", "turn": "state", "target": "state figure", "started": "state",
        "__call__": "setting", "path": "setting", "inverse": "", "__mul__": "other", "power": "count",
        "__eq__": "other", "__len__": "", "__repr__": ""}, "prime start text")},
    "rounds": {"Answer": ("turner", {"told": "", "holds": "", "__bool__": "", "__repr__": ""}, "subject is_single"),
               "Single": ("turner counts back", {"told": "", "holds": ""}, "counts back is_single"),
               "Split": ("turner counts", {"told": "", "holds": "", "pair": ""}, "counts dials")},
    "relabel": {"Relabelling": ("prime tables", {
        "idle": "prime dials", "tables": "", "__call__": "setting", "inverse": "", "__mul__": "other",
        "leads": "one other", "__eq__": "other", "__len__": "", "__repr__": ""}, "prime dials"),
                "Match": ("one other pairs back", {"holds": "", "__len__": "", "__repr__": ""}, "one other pairs back")},
    "books": {"Book": ("prime *limit=12", {
        "apply": "*commands", "undo": "", "redo": "", "history": "", "set_limit": "limit", "names": "*kinds",
        "kind": "name", "text_of": "name", "letters": "name", "turner": "name", "total": "name dials",
        "verdict": "name", "kept": "", "twin": "", "__contains__": "name", "__len__": "", "__eq__": "other",
        "__repr__": ""}, "prime limit busy computed")},
    "desk": {"Desk": ("book", {"say": "line", "log": "", "__len__": ""}, "book")},
}


def told_parameters(call):
    """The parameters in the form of the tables above."""
    found = []
    for name, parameter in inspect.signature(call).parameters.items():
        star = "*" if parameter.kind in (parameter.KEYWORD_ONLY, parameter.VAR_POSITIONAL) else ""
        default = "" if parameter.default is parameter.empty else f"={parameter.default!r}"
        found.append(star + name + default)
    return " ".join(found)


def module(name):
    """A module of the program."""
    return importlib.import_module(f"lowturns.{name}")


class Names(unittest.TestCase):
    def test_functions(self):
        for file, functions in FUNCTIONS.items():
            for name, parameters in functions.items():
                call = vars(module(file))[name]
                self.assertTrue(inspect.isfunction(call), name)
                self.assertEqual((call.__module__, call.__name__), (f"lowturns.{file}", name))
                self.assertEqual(told_parameters(call), parameters, name)

    def test_classes(self):
        for file, classes in CLASSES.items():
            for name, (parameters, methods, properties) in classes.items():
                kind = vars(module(file))[name]
                self.assertTrue(inspect.isclass(kind), name)
                self.assertEqual((kind.__module__, kind.__name__), (f"lowturns.{file}", name))
                self.assertEqual(told_parameters(kind), parameters, name)
                for method, wanted in methods.items():
                    # In the class itself, not only in one above.
                    self.assertIn(method, vars(kind), name)
                    found = told_parameters(getattr(kind, method))
                    if not isinstance(vars(kind)[method], (staticmethod, classmethod)):
                        found = found.partition(" ")[2]
                    self.assertEqual(found, wanted, (name, method))
                for word in properties.split():
                    self.assertIsInstance(vars(kind)[word], property, (name, word))

    def test_static_and_class_methods(self):
        self.assertIsInstance(vars(Turner)["idle"], staticmethod)
        self.assertIsInstance(vars(Turner)["read"], classmethod)
        self.assertIsInstance(vars(Relabelling)["idle"], classmethod)
        self.assertEqual((Turner.MOST, Book.MOST, module("figures").PRIMES), (240, 20, (2, 3, 5, 7)))
        self.assertEqual((Single.__bases__, Split.__bases__), ((Answer,), (Answer,)))

    def test_no_property_can_be_assigned_but_the_limit(self):
        made = {"Turner": Turner.idle(2), "Answer": Answer(Turner.idle(2)), "Single": decide(counter(2)),
                "Split": decide(Turner.idle(2)), "Relabelling": Relabelling.idle(2, 1), "Book": Book(2),
                "Match": match(counter(2), counter(2)), "Desk": Desk(Book(2))}
        for classes in CLASSES.values():
            for name, (_, _, properties) in classes.items():
                for word in properties.split():
                    if word != "limit":
                        self.assertRaises(AttributeError, setattr, made[name], word, getattr(made[name], word))
        made["Book"].limit = 13
        self.assertEqual(made["Book"].limit, 13)

    def test_documented_modules_are_there(self):
        for name in ("errors", *FUNCTIONS, *CLASSES):
            self.assertEqual(module(name).__name__, f"lowturns.{name}")


class ByName(unittest.TestCase):
    """All parameters by their names, in another order."""

    def test_figures_and_turners(self):
        self.assertTrue(is_setting(value=(1,), prime=2))
        self.assertEqual((number_of(setting=(1, 2), prime=3), setting_of(dials=2, number=7, prime=3)), (7, (1, 2)))
        self.assertEqual(list(settings(dials=1, prime=2)), [(0,), (1,)])
        one = Turner(start=1, states=[(1, (0, 1)), (0, (1, 1))], prime=2)
        self.assertEqual((one, Turner.idle(prime=2)), (Turner.read(text="2 1: 1 0,1; 0 1,1"), Turner.read("2 0: 0 0,0")))
        self.assertEqual((one.target(figure=0, state=1), one.turn(state=0), one.started(state=0).start), (1, 1, 0))
        self.assertEqual((one(setting=(1,)), one.path(setting=(1,)), one.power(count=0)), ((1,), [1], Turner.idle(2)))

    def test_parting_programs_counts_rounds(self):
        one, other = counter(2), Turner.idle(2)
        self.assertEqual((reached(turner=one), alike_states(turner=one)), ([0, 1], [(0,), (1,)]))
        self.assertEqual((least(turner=one), first_difference(other=other, one=one)), (Turner.read(A), (0,)))
        self.assertIs(is_same(other=other, one=one), False)
        self.assertEqual((affine(number=1, factor=1, prime=2), mixing(number=0, prime=2)), (one, other))
        self.assertEqual((stirring(other=2, one=1, prime=2), compiled(text="", prime=2)), (stirring(2, 1, 2), other))
        self.assertEqual((first_counts(turner=one), next_counts(counts=[1, 0], turner=one)), ([1, 0], [1, 1]))
        self.assertEqual((turn_total(counts=[1, 0], turner=one), total(dials=9, turner=one)), (1, 1))
        self.assertEqual(decide(most=9, turner=one).told(), "single")
        self.assertTrue(Single(back=1, counts=[[1, 0], [1, 1]], turner=one).holds())
        self.assertTrue(Split(counts=[[1]], turner=other).holds())
        self.assertEqual(Answer(turner=one).subject, one)

    def test_walks_still_relabel(self):
        one, other = counter(2), affine(2, 1, 3)
        self.assertEqual(list(round_of(setting=(1,), turner=one)), [(1,), (0,)])
        self.assertEqual((round_length(setting=(1,), turner=one), round_lengths(dials=2, turner=one)), (2, [4]))
        self.assertEqual((place_of(setting=(1, 1), turner=one), setting_at(place=3, dials=2, turner=one)), (3, (1, 1)))
        self.assertEqual((still_count(dials=1, turner=one), agree_count(dials=1, other=other, one=one)), (0, 2))
        self.assertEqual((still_depth(turner=one), first_still(dials=1, turner=one)), (0, None))
        found = Relabelling(tables=[[1], [0, 1]], prime=2)
        self.assertEqual((found(setting=(0, 0)), Relabelling.idle(dials=1, prime=2).tables()), ((1, 0), [[0]]))
        found = relabel(chosen=[1], dials=2, other=other, one=one)
        self.assertIs(found.leads(other=other, one=one), True)
        answer = match(most=50, other=other, one=one)
        self.assertTrue(Match(back=answer.back, pairs=answer.pairs, other=other, one=one).holds())

    def test_words_books_pages_desk(self):
        self.assertEqual((is_name(value="a"), read_word(text="a"), word_text(letters=[("a", True)])),
                         (True, [("a", False)], "a'"))
        book = Book(limit=5, prime=2)
        book.apply(("turner", "a", A))
        book.set_limit(limit=6)
        self.assertEqual((book.limit, book.kind(name="a"), book.text_of(name="a")), (6, "turner", A))
        self.assertEqual((book.letters(name="a"), book.turner(name="a")), ([(Turner.read(A), False)], Turner.read(A)))
        self.assertEqual((book.total(dials=2, name="a"), book.verdict(name="a")), (1, "single"))
        self.assertEqual(read_page(text=write_page(book=book)), book)
        desk = Desk(book=book)
        self.assertEqual(desk.say(line="names"), "a")

    def test_keyword_only(self):
        for call, values in ((Turner, (2, [(0, (0, 0))], 0)), (decide, (counter(2), 9)), (Book, (2, 5)),
                             (relabel, (counter(2), counter(2), 1, [0])), (match, (counter(2), counter(2), 9))):
            self.assertRaises(TypeError, call, *values)
            call(*values[:-1])


class Told(unittest.TestCase):
    def test_none_is_returned_unless_told(self):
        book = Book(2)
        found = [book.apply(("turner", "a", A)), book.apply(), book.undo(), book.redo(), book.set_limit(5)]
        self.assertEqual(found, [None] * 5)

    def test_kinds(self):
        book, one = shelf(), counter(2)
        lists = [round_lengths(one, 1), Relabelling.idle(2, 1).tables(), read_word("a"), book.names(), book.letters("a"),
                 book.kept(), Desk(book).log(), one.states(), one.path((1,)), reached(one), alike_states(one),
                 first_counts(one), next_counts(one, [1, 0]), match(one, one).pairs, decide(one).counts]
        self.assertEqual({type(found) for found in lists}, {list})
        tuples = [setting_at(one, 1, 1), first_still(Turner.idle(2), 1), book.history(), book.letters("a")[0],
                  read_word("a")[0], match(one, one).pairs[0], Relabelling.idle(2, 1)((0,)), one((1,))]
        self.assertEqual({type(found) for found in tuples}, {tuple})
        numbers = [round_length(one, ()), place_of(one, ()), still_count(one, 1), agree_count(one, one, 1), still_depth(one),
                   len(book), book.computed, book.total("a", 1), Relabelling.idle(2, 1).dials, match(one, one).back]
        self.assertEqual({type(found) for found in numbers}, {int})
        flags = ["a" in book, book.busy, is_name("a"), book == book, Relabelling.idle(2, 1).leads(one, one),
                 Relabelling.idle(2, 1) == one, match(one, one).holds(), book.letters("a")[0][1], read_word("a")[0][1]]
        self.assertEqual({type(found) for found in flags}, {bool})
        texts = [book.text_of("a"), book.kind("a"), book.verdict("a"), word_text([]), write_page(book), Desk(book).say("x")]
        self.assertEqual({type(found) for found in texts}, {str})
        self.assertIn("__next__", dir(round_of(one, ())))

    def test_arguments_are_not_changed(self):
        chosen, tables, letters = [1, 0, 1], [[1], [0, 1]], [("a", True)]
        pairs = [([1, 0], [1, 0]), ([1, 1], [1, 1])]
        states, counts = [(1, (1, 0)), (0, (1, 1))], [1, 1]
        relabel(counter(2), counter(2), 2, chosen=chosen)
        (Relabelling(2, tables) * Relabelling(2, tables)).inverse()
        word_text(letters)
        Match(counter(2), counter(2), pairs, 1).holds()
        Turner(2, states).inverse()
        next_counts(counter(2), counts)
        turn_total(counter(2), counts)
        self.assertTrue(same([chosen, tables, letters, pairs, states, counts],
                             [[1, 0, 1], [[1], [0, 1]], [("a", True)], [([1, 0], [1, 0]), ([1, 1], [1, 1])],
                              [(1, (1, 0)), (0, (1, 1))], [1, 1]]))

    def test_equal_calls(self):
        one, other = shelf(), shelf()
        for name in one.names():
            self.assertEqual((one.letters(name), one.turner(name), one.verdict(name), one.total(name, 7)),
                             (other.letters(name), other.turner(name), other.verdict(name), other.total(name, 7)))
        self.assertEqual((write_page(one), repr(one), len(one)), (write_page(other), repr(other), len(other)))
        for command in (("start", "a", 1), ("rename", "a", "z"), ("turner", "m", B)):
            one.apply(command)
            other.apply(command)
            self.assertEqual(one, other)


if __name__ == "__main__":
    unittest.main()
