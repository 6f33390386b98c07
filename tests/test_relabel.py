"""[14], [15] and what lowturns/relabel.py has for few dials: Relabelling and relabel."""

import itertools
import unittest

from lowturns.counts import total
from lowturns.programs import affine, compiled
from lowturns.relabel import Relabelling, relabel
from lowturns.turners import Turner
from tests.samples import FAR, ODD, PRIMES, all_settings, counter, late, row, same, told, tried

# The greatest numbers of dials with at most 20000 settings.
MOST = {2: 14, 3: 9, 5: 6, 7: 5}
BENT = [[[0], [0, 1]], [[1], [0, 0]], [[1], [1, 0]], [[0], [1, 1]]]


def drawn(prime, dials, seed):
    """Tables that look random, but are the same in each run."""
    number = seed * 7919 + prime

    def figure():
        nonlocal number
        number = (number * 6364136223846793005 + 1442695040888963407) % 2 ** 64
        return (number >> 33) % prime

    return [[figure() for _ in range(prime ** dial)] for dial in range(dials)]


def is_table(prime, value, many):
    """Whether a value is a list or a tuple of so many figures."""
    return (isinstance(value, (list, tuple)) and len(value) == many
            and all(type(figure) is int and 0 <= figure < prime for figure in value))


def all_tables(prime, dials):
    """The tables of all relabellings."""
    many = sum(prime ** dial for dial in range(dials))
    for figures in itertools.product(range(prime), repeat=many):
        tables, at = [], 0
        for dial in range(dials):
            tables.append(list(figures[at:at + prime ** dial]))
            at += prime ** dial
        yield tables


def behind(prime, tables, setting):
    """The setting behind a relabelling, straight from [14]."""
    found = []
    for dial, table in enumerate(tables):
        number = sum(figure * prime ** at for at, figure in enumerate(setting[:dial]))
        found.append((setting[dial] + table[number]) % prime)
    return tuple(found)


def is_led(prime, tables, one, other):
    """Whether a relabelling leads one turner to another one, straight from [14]."""
    return all(behind(prime, tables, one(setting)) == other(behind(prime, tables, setting))
               for setting in all_settings(prime, len(tables)))


def samples():
    """Primes with numbers of dials and tables to try."""
    for prime, most in ((2, 5), (3, 4), (5, 3), (7, 3)):
        for dials in range(most + 1):
            for seed in range(3):
                yield prime, dials, drawn(prime, dials, seed)


def equal_totals(one, other, dials):
    """Whether the totals of two turners are equal at all numbers of dials below."""
    return all(total(one, below) == total(other, below) for below in range(dials))


def is_single(turner, dials):
    """Whether the totals at all numbers of dials below are not 0."""
    return all(total(turner, below) for below in range(dials))


class Relabellings(unittest.TestCase):
    def test_by_hand(self):
        one = Relabelling(2, [[1], [0, 1]])
        self.assertEqual([one(setting) for setting in all_settings(2, 2)], [(1, 0), (0, 1), (1, 1), (0, 0)])
        self.assertTrue(same([one.prime, one.dials, one.tables(), len(one), repr(one)],
                             [2, 2, [[1], [0, 1]], 2, "Relabelling(2, 2 dials)"]))
        self.assertEqual(one.inverse(), Relabelling(2, [[1], [1, 0]]))
        self.assertEqual((one * one).tables(), [[0], [1, 1]])
        self.assertEqual(repr(Relabelling(7, [[5]])), "Relabelling(7, 1 dials)")
        self.assertEqual(repr(Relabelling(2, drawn(2, 3, 1))), "Relabelling(2, 3 dials)")

    def test_dial_by_dial(self):
        for prime, dials, tables in samples():
            found = Relabelling(prime, tables)
            self.assertTrue(same([found.prime, found.dials, len(found), found.tables()],
                                 [prime, dials, dials, tables]))
            for setting in all_settings(prime, dials):
                self.assertTrue(same(found(setting), behind(prime, tables, setting)))

    def test_the_inverse_undoes(self):
        for prime, dials, tables in samples():
            found = Relabelling(prime, tables)
            inverse = found.inverse()
            self.assertIs(type(inverse), Relabelling)
            for setting in all_settings(prime, dials):
                self.assertEqual(inverse(found(setting)), setting)
                self.assertEqual(found(inverse(setting)), setting)
            self.assertEqual(found * inverse, Relabelling.idle(prime, dials))
            self.assertEqual(inverse * found, Relabelling.idle(prime, dials))
            self.assertEqual(inverse.inverse(), found)

    def test_products(self):
        for prime, dials, tables in samples():
            ones = [Relabelling(prime, tables), Relabelling(prime, drawn(prime, dials, 8)),
                    Relabelling(prime, drawn(prime, dials, 9))]
            both, three = ones[0] * ones[1], ones[0] * ones[1] * ones[2]
            self.assertIs(type(both), Relabelling)
            for setting in all_settings(prime, dials):
                self.assertEqual(both(setting), ones[1](ones[0](setting)))
                self.assertEqual(three(setting), ones[2](ones[1](ones[0](setting))))
            self.assertEqual(three, ones[0] * (ones[1] * ones[2]))
            self.assertEqual(ones[0] * Relabelling.idle(prime, dials), ones[0])
            self.assertEqual(ones[0].tables(), tables)

    def test_idle(self):
        for prime in PRIMES:
            for dials in range(MOST[prime] + 1):
                found = Relabelling.idle(prime, dials)
                self.assertTrue(same(found.tables(), [[0] * prime ** dial for dial in range(dials)]))
                self.assertEqual(found, Relabelling(prime, found.tables()))
                setting = tuple(range(prime)) + (1,) * dials
                self.assertEqual(found(setting[:dials]), setting[:dials])

    def test_many_dials(self):
        for prime, dials in MOST.items():
            tables = drawn(prime, dials, 5)
            found = Relabelling(prime, tables)
            setting = (tuple(range(prime)) * 7)[:dials]
            self.assertEqual(found(setting), behind(prime, tables, setting))
            self.assertEqual(found.inverse()(found(setting)), setting)
            self.assertEqual((found * found)(setting), found(found(setting)))
            self.assertEqual(found * found.inverse(), Relabelling.idle(prime, dials))

    def test_equality(self):
        one = Relabelling(2, [[1], [0, 1]])
        self.assertTrue(one == Relabelling(2, [[1], [0, 1]]) and not one != Relabelling(2, [(1,), (0, 1)]))
        for tables in BENT + [[], [[1]], [[1], [0, 1], [0, 0, 0, 0]]]:
            self.assertTrue(one != Relabelling(2, tables) and not one == Relabelling(2, tables))
        self.assertNotEqual(Relabelling(2, [[1]]), Relabelling(3, [[1]]))
        self.assertNotEqual(Relabelling(2, []), Relabelling(3, []))
        for value in [*ODD, *FAR, 2, [[1], [0, 1]], Turner.idle(2), Relabelling]:
            self.assertIs(one == value, False)
            self.assertIs(one != value, True)
            self.assertIs(value == one, False)

    def test_lists_are_copied(self):
        tables = [[1], [0, 1]]
        one = Relabelling(2, tables)
        tables[1][0] = 1
        tables.append([0] * 4)
        told_ones = one.tables()
        told_ones[0][0] = 0
        told_ones.pop()
        self.assertEqual(one.tables(), [[1], [0, 1]])
        self.assertEqual(one, Relabelling(2, [[1], [0, 1]]))
        inner = [0, 2]
        one = Relabelling(3, ([0], (0, 1, 2), [1] * 9))
        self.assertEqual(one.tables(), [[0], [0, 1, 2], [1] * 9])
        one = Relabelling(3, ([0], inner + [1]))
        inner[0] = 5
        self.assertEqual(one((1, 0)), (1, 2))

    def test_tuples_may_be_passed(self):
        for prime, _, tables in samples():
            for given in (tuple(tables), [tuple(table) for table in tables], tuple(tuple(table) for table in tables)):
                found = Relabelling(prime, given)
                self.assertTrue(same(found.tables(), tables))
                self.assertEqual(found, Relabelling(prime, tables))


class Wrong(unittest.TestCase):
    def test_primes(self):
        for prime in [*ODD, *FAR, 0, 1, 4, 11, -2]:
            for tables in ([[1]], [], None, [[9]], [[0]] * 300):
                self.assertTrue(same(told(self, Relabelling, prime, tables), ("InvalidPrime", prime)))
            for dials in (0, 1, -1, 201, None):
                self.assertTrue(same(told(self, Relabelling.idle, prime, dials), ("InvalidPrime", prime)))

    def test_too_many(self):
        for prime, most in MOST.items():
            self.assertEqual(Relabelling(prime, drawn(prime, most, 1)).dials, most)
            for tables in ([[0] * prime ** dial for dial in range(most + 1)], [None] * (most + 1), [[]] * 300,
                           ("x",) * 200):
                self.assertEqual(told(self, Relabelling, prime, tables), ("TooMany", 20000))
            self.assertEqual(told(self, Relabelling, prime, [None] * most), ("InvalidTable", 0))
            for dials in (most + 1, 199, 200):
                self.assertEqual(told(self, Relabelling.idle, prime, dials), ("TooMany", 20000))

    def test_idle_counts(self):
        for prime in PRIMES:
            for dials in [*ODD, *FAR, -1, 201]:
                self.assertTrue(same(told(self, Relabelling.idle, prime, dials), ("InvalidCount", dials)))

    def test_tables(self):
        for prime, dials, tables in samples():
            for dial in range(dials):
                right = tables[dial]
                for value in [*ODD, *FAR, 2, right + [0], right[:-1], [right], [tuple(right)], "0" * len(right)]:
                    if not is_table(prime, value, len(right)):
                        given = tables[:dial] + [value] + tables[dial + 1:]
                        self.assertTrue(same(told(self, Relabelling, prime, given), ("InvalidTable", dial)))
                        # The first wrong one counts.
                        given = tables[:dial] + [value] + [None] * (dials - dial - 1)
                        self.assertEqual(told(self, Relabelling, prime, given), ("InvalidTable", dial))

    def test_figures(self):
        for prime, dials, tables in samples():
            for dial in range(dials):
                for place in {0, len(tables[dial]) // 2, len(tables[dial]) - 1}:
                    for value in [*ODD, *FAR, prime, -1]:
                        given = [list(table) for table in tables]
                        given[dial][place] = value
                        self.assertTrue(same(told(self, Relabelling, prime, given), ("InvalidTable", dial)))
                        given[dial] = tuple(given[dial])
                        self.assertEqual(told(self, Relabelling, prime, given), ("InvalidTable", dial))

    def test_the_list_of_tables(self):
        for prime in PRIMES:
            for value in [one for one in ODD if not isinstance(one, (list, tuple))] + [0, 1, "ab", "0" * 300]:
                self.assertEqual(told(self, Relabelling, prime, value), ("InvalidTable", 0))
            for value in ([], ()):
                self.assertEqual(Relabelling(prime, value), Relabelling.idle(prime, 0))

    def test_no_tables(self):
        for prime in PRIMES:
            found = Relabelling(prime, [])
            self.assertEqual((found.dials, len(found), found.tables(), found(())), (0, 0, [], ()))
            self.assertEqual((found.inverse(), found * found), (found, found))
            self.assertEqual(repr(found), f"Relabelling({prime}, 0 dials)")
            self.assertIs(found.leads(counter(prime), Turner.idle(prime)), True)

    def test_settings(self):
        for prime in PRIMES:
            found = Relabelling(prime, drawn(prime, 2, 1))
            wrong = [*ODD, *FAR, (), (0,), (0, 0, 0), (0,) * 200, (0,) * 201, [0, 0], (prime, 0), (0, prime), (0, -1),
                     (0, True), (None, 0), ("0", 0), ((0,), 0)]
            for setting in wrong:
                self.assertTrue(same(told(self, found, setting), ("InvalidSetting", setting)))
            self.assertTrue(same(told(self, Relabelling(prime, []), (0,)), ("InvalidSetting", (0,))))

    def test_products(self):
        for prime in PRIMES:
            for other in PRIMES:
                for dials, others in ((0, 0), (1, 2), (3, 0), (0, 4)):
                    pair = (Relabelling.idle(prime, dials), Relabelling.idle(other, others))
                    if prime != other:
                        found = told(self, lambda one, two: one * two, *pair)
                        self.assertEqual(found, ("PrimesDiffer",))
                    elif dials != others:
                        found = told(self, lambda one, two: one * two, *pair)
                        self.assertTrue(same(found, ("InvalidCount", others)))
        for value in (2, None, "x", [[0]], Turner.idle(2)):
            self.assertRaises(TypeError, lambda other: Relabelling(2, [[0]]) * other, value)


class Leads(unittest.TestCase):
    def test_by_hand(self):
        # Adding 1 and adding 3 to numbers below 4; the relabelling multiplies them by 3.
        found = Relabelling(2, [[0], [0, 1]])
        self.assertIs(found.leads(counter(2), affine(2, 1, 3)), True)
        for tables in BENT:
            expected = is_led(2, tables, counter(2), affine(2, 1, 3))
            self.assertIs(Relabelling(2, tables).leads(counter(2), affine(2, 1, 3)), expected)
        self.assertIs(found.leads(counter(2), counter(2)), False)
        self.assertIs(Relabelling.idle(2, 3).leads(counter(2), counter(2)), True)
        self.assertIs(Relabelling.idle(2, 3).leads(counter(2), counter(2).inverse()), False)

    def test_all_relabellings(self):
        for prime, dials in ((2, 3), (3, 2)):
            tested = [Relabelling(prime, tables) for tables in all_tables(prime, dials)]
            turners = [counter(prime), counter(prime).inverse(), affine(prime, 1 + prime, 1), late(prime, 1),
                       compiled(prime, "mix -1; stir 1 1"), Turner.idle(prime), late(prime, 2), row(prime, [1, 1], 1)]
            for one in turners:
                for other in turners:
                    expected = [is_led(prime, found.tables(), one, other) for found in tested]
                    self.assertEqual([found.leads(one, other) for found in tested], expected)
                    if is_single(one, dials) and is_single(other, dials):
                        # [15]: none, or p to the power of n of them.
                        many = prime ** dials if equal_totals(one, other, dials) else 0
                        self.assertEqual(sum(expected), many)

    def test_inverses_and_products_lead(self):
        for prime in PRIMES:
            turners = [counter(prime), affine(prime, 1 + prime * prime, 1), affine(prime, 1, 1 + prime * prime)]
            one, other = relabel(*turners[:2], 3), relabel(*turners[1:], 3)
            self.assertIs(one.inverse().leads(turners[1], turners[0]), True)
            self.assertIs((one * other).leads(turners[0], turners[2]), True)

    def test_bent_ones_do_not_lead(self):
        for prime in PRIMES:
            one, other, dials = counter(prime), affine(prime, 1 + prime * prime, 1), 3
            right = relabel(one, other, dials)
            for dial in range(dials - 1):
                for place in range(prime ** dial):
                    tables = right.tables()
                    tables[dial][place] = (tables[dial][place] + 1) % prime
                    found = Relabelling(prime, tables)
                    self.assertIs(found.leads(one, other), is_led(prime, tables, one, other))
                    self.assertIs(found.leads(one, other), False)

    def test_primes_differ(self):
        found = Relabelling.idle(2, 3)
        for one, other in ((2, 3), (3, 2), (3, 3), (7, 5)):
            self.assertEqual(told(self, found.leads, counter(one), counter(other)), ("PrimesDiffer",))

    def test_many_dials(self):
        for prime, dials in MOST.items():
            found = relabel(counter(prime), affine(prime, 1 + prime * prime, 1), dials)
            self.assertIs(found.leads(counter(prime), affine(prime, 1 + prime * prime, 1)), True)
            self.assertIs(found.leads(counter(prime), counter(prime)), False)


class Relabel(unittest.TestCase):
    def check(self, one, other, dials, chosen):
        found = relabel(one, other, dials, chosen=chosen)
        prime = one.prime
        self.assertIs(type(found), Relabelling)
        self.assertEqual((found.prime, found.dials), (prime, dials))
        tables = found.tables()
        self.assertTrue(is_led(prime, tables, one, other))
        expected = (list(chosen) + [0] * dials)[:dials]
        self.assertTrue(same([table[0] for table in tables], expected))
        self.assertIs(found.leads(one, other), True)
        return found

    def test_by_hand(self):
        found = relabel(counter(2), affine(2, 1, 3), 2)
        self.assertTrue(same(found.tables(), [[0], [0, 1]]))
        found = relabel(counter(2), affine(2, 1, 3), 2, chosen=[1, 1])
        # 0 1 2 3 go to 3 2 1 0.
        self.assertTrue(same(found.tables(), [[1], [1, 1]]))

    def test_it_leads_and_has_the_chosen_figures(self):
        for prime, dials in ((2, 4), (3, 3), (5, 2), (7, 2)):
            found = tried(prime)
            kinds = 0
            for one in found:
                for other in found:
                    for many in range(dials + 1):
                        if is_single(one, many) and is_single(other, many) and equal_totals(one, other, many):
                            kinds += one != other
                            for chosen in ((), [prime - 1] * many, [0, 1] * many, (1,)):
                                self.check(one, other, many, chosen)
            self.assertGreater(kinds, 20)

    def test_all_choices(self):
        for prime, dials in ((2, 3), (3, 2)):
            one, other = counter(prime), affine(prime, 1 + prime * prime, 1 + prime)
            leading = [Relabelling(prime, tables) for tables in all_tables(prime, dials)
                       if is_led(prime, tables, one, other)]
            self.assertEqual(len(leading), prime ** dials)
            for chosen in all_settings(prime, dials):
                right = [found for found in leading if [table[0] for table in found.tables()] == list(chosen)]
                self.assertEqual(right, [relabel(one, other, dials, chosen=chosen)])

    def test_chosen_shorter_and_longer(self):
        one, other = counter(3), affine(3, 4, 1)
        for chosen in ([], [2], [2, 1], [2, 1, 0], [2, 1, 0, 2, 2], [1] * 300, (2,), (0, 2, 1, 1), ()):
            self.check(one, other, 3, chosen)
        long, short = relabel(one, other, 3, chosen=[2, 1, 0, 2, 2]), relabel(one, other, 3, chosen=(2, 1))
        self.assertEqual(long, short)
        self.assertEqual(relabel(one, other, 3), relabel(one, other, 3, chosen=[0, 0, 0]))

    def test_chosen_stays(self):
        chosen = [1, 0]
        found = relabel(counter(2), counter(2), 3, chosen=chosen)
        self.assertEqual(chosen, [1, 0])
        chosen[0] = 0
        self.assertEqual(found.tables()[0], [1])

    def test_no_dials(self):
        for prime in PRIMES:
            for one in tried(prime)[:6]:
                for other in tried(prime)[:6]:
                    for chosen in ((), [1], (0, 1)):
                        self.assertEqual(relabel(one, other, 0, chosen=chosen), Relabelling(prime, []))

    def test_many_dials(self):
        for prime, dials in MOST.items():
            one, other = affine(prime, 1 + prime * prime, 1), affine(prime, 1 - prime * prime, 1 + prime)
            found = relabel(one, other, dials, chosen=[1] * dials)
            self.assertIs(found.leads(one, other), True)
            self.assertEqual([table[0] for table in found.tables()], [1] * dials)

    def test_primes_differ(self):
        for dials in (0, 3, -1, 201, None):
            for chosen in ((), [9]):
                self.assertEqual(told(self, relabel, counter(2), counter(3), dials, chosen=chosen), ("PrimesDiffer",))

    def test_wrong_numbers_of_dials(self):
        for prime in PRIMES:
            for dials in [*ODD, *FAR, -1, 201]:
                for chosen in ((), [9]):
                    found = told(self, relabel, counter(prime), Turner.idle(prime), dials, chosen=chosen)
                    self.assertTrue(same(found, ("InvalidCount", dials)))

    def test_too_many(self):
        for prime, most in MOST.items():
            for dials in (most + 1, 199, 200):
                for other in (counter(prime), Turner.idle(prime)):
                    found = told(self, relabel, counter(prime), other, dials, chosen=[0, 9])
                    self.assertEqual(found, ("TooMany", 20000))

    def test_wrong_figures(self):
        for prime in PRIMES:
            for dials in (0, 1, 3):
                for at in (0, 2, 3, 299):
                    for value in [*ODD, *FAR, prime, -1]:
                        for other in (counter(prime), Turner.idle(prime)):
                            for chosen in ([0] * at + [value], (1,) * at + (value, 99)):
                                found = told(self, relabel, counter(prime), other, dials, chosen=chosen)
                                self.assertTrue(same(found, ("InvalidFigure", value)))

    def test_not_single(self):
        for prime in PRIMES:
            for zeros in range(3):
                split = late(prime, zeros)
                for dials in range(5):
                    for one, other in ((split, counter(prime)), (counter(prime), split), (split, split)):
                        if dials > zeros:
                            self.assertEqual(told(self, relabel, one, other, dials), ("NotSingle",))
                        else:
                            self.assertIs(relabel(one, other, dials).leads(one, other), True)

    def test_no_relabelling(self):
        for prime in (3, 5, 7):
            for at in range(4):
                one, other = row(prime, [1, 1, 1, 1, 1], 1), row(prime, [1] * at + [2, 1, prime - 1], at + 1)
                for dials in range(5):
                    for first, second in ((one, other), (other, one)):
                        if dials > at:
                            found = told(self, relabel, first, second, dials)
                            self.assertTrue(same(found, ("NoRelabelling", at + 1)))
                        else:
                            self.assertIs(relabel(first, second, dials).leads(first, second), True)

    def test_not_single_comes_ahead(self):
        one, other = row(3, [1, 2, 0], 2), row(3, [1, 1, 1], 2)
        for first, second in ((one, other), (other, one)):
            self.assertEqual(told(self, relabel, first, second, 3), ("NotSingle",))
            self.assertEqual(told(self, relabel, first, second, 2), ("NoRelabelling", 2))
            self.assertEqual(told(self, relabel, first, second, 3, chosen=[3]), ("InvalidFigure", 3))

    def test_chosen_is_keyword_only(self):
        self.assertRaises(TypeError, relabel, counter(2), counter(2), 1, [0])


if __name__ == "__main__":
    unittest.main()
