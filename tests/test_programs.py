"""[9] and the interface of lowturns/programs.py."""

import inspect
import unittest

from lowturns import programs
from lowturns.parting import alike_states
from lowturns.programs import affine, compiled, mixing, stirring
from lowturns.turners import Turner
from tests.samples import FAR, ODD, PRIMES, all_settings, dials_of, error_of, same, told

EDGES = [0, 1, -1, 2, -2, 5, 6, 7, -7, 8, 30, -31, 12345, 999998, 999999, -999998, -999999]
NO_PRIMES = ODD + FAR + [-2, -1, 0, 1, 4, 6, 8, 9, 11]
NO_NUMBERS = ODD + FAR + [1000000, 1000001, -1000000, -1000001]
# Factors and numbers with exactly 240 and 241 carries.
FULL = {2: [(239, -1), (-239, 0)], 3: [(238, -2), (-239, 0)], 5: [(236, -27), (-239, 0)], 7: [(239, -1), (-237, 7)]}
OVER = {2: [(241, 0), (-241, -30)], 3: [(241, 0), (-239, 1)], 5: [(241, 0), (-239, 1)], 7: [(239, -2), (239, -7)]}


def number(prime, setting):
    """The number of a setting, straight from [3]."""
    return sum(figure * prime ** dial for dial, figure in enumerate(setting))


def setting_for(prime, value, dials):
    """The setting of so many dials whose number has the same rest as the value."""
    rest = value % prime ** dials
    return tuple(rest // prime ** dial % prime for dial in range(dials))


def long_settings(prime):
    """Some settings of many dials."""
    found = []
    for dials in (50, 117, 200):
        for seed in range(4):
            found.append(tuple((at * at * (seed + 2) + at // (seed + 1) + seed) % prime for at in range(dials)))
        found += [(0,) * dials, (prime - 1,) * dials]
    return found


def settings_to_try(prime):
    """All settings of few dials, and long ones."""
    return all_settings(prime, dials_of(prime, 130)) + [(), (0,), (1,), (prime - 1,)] + long_settings(prime)


def stirred(prime, one, other, setting):
    """What a line stir does, straight from [9]."""
    def shown(dial):
        return setting[dial] if dial >= 0 else 1

    return tuple((figure + shown(dial - one) * shown(dial - other)) % prime for dial, figure in enumerate(setting))


def numbered(prime, first, step):
    """The states in the order in which their keys are reached; step gives a turn and the keys behind."""
    keys, places, rows = [first], {first: 0}, []
    for key in keys:
        turn, following = step(key)
        for fresh in following:
            if fresh not in places:
                places[fresh] = len(keys)
                keys.append(fresh)
        rows.append((turn, tuple(places[fresh] for fresh in following)))
    return rows


def carries(prime, factor, carry):
    """The turn and the next carries, straight from the interface."""
    following = []
    for figure in range(prime):
        whole = factor * figure + carry - (figure + carry % prime) % prime
        assert whole % prime == 0
        following.append(whole // prime)
    return carry % prime, following


def done(prime, line, setting):
    """What one line does to a setting, with numbers."""
    word, *numbers = line.split(" ")
    numbers = [int(one) for one in numbers]
    dials = len(setting)
    if word == "add":
        return setting_for(prime, number(prime, setting) + numbers[0], dials)
    if word == "times":
        return setting_for(prime, number(prime, setting) * numbers[0], dials)
    if word == "mix":
        figures = setting_for(prime, numbers[0], dials)
        return tuple((one + two) % prime for one, two in zip(setting, figures))
    return stirred(prime, numbers[0], numbers[1], setting)


class Affine(unittest.TestCase):
    def test_examples(self):
        self.assertEqual(affine(2, 1, 1).text, "2 0: 1 1,0; 0 1,1")
        self.assertEqual(affine(2, 1, 3).text, "2 0: 1 1,2; 1 3,1; 0 1,1; 0 3,3")
        self.assertEqual(affine(2, 3, 0).text, "2 0: 0 0,1; 1 0,2; 0 1,2")
        self.assertEqual(affine(2, 1, -1).text, "2 0: 1 0,1; 0 1,1")
        self.assertEqual(affine(3, 1, 0).text, "3 0: 0 0,0,0")
        self.assertEqual(affine(3, -2, 1).text, "3 0: 1 1,2,2; 0 1,2,3; 2 2,2,3; 1 2,3,3")

    def test_sums_and_products(self):
        for prime in PRIMES:
            for factor in (1, 1 + prime, 1 - prime, 1 + 3 * prime, 1 - 4 * prime, 1 + prime ** 2):
                for add in EDGES if factor == 1 else EDGES[:12]:
                    turner = affine(prime, factor, add)
                    for setting in settings_to_try(prime):
                        expected = setting_for(prime, number(prime, setting) * factor + add, len(setting))
                        self.assertEqual(turner(setting), expected)

    def test_states(self):
        for prime in PRIMES:
            for factor in (1, 1 + prime, 1 - 2 * prime, 1 + 9 * prime):
                for add in EDGES:
                    rows = numbered(prime, add, lambda carry: carries(prime, factor, carry))
                    if len(rows) > 240:
                        self.assertEqual(told(self, affine, prime, factor, add), ("TooMany", 240))
                        continue
                    turner = affine(prime, factor, add)
                    self.assertTrue(same(turner.states(), rows))
                    self.assertTrue(same([turner.prime, turner.start], [prime, 0]))
                    self.assertIsInstance(turner, Turner)

    def test_invalid_primes(self):
        for prime in NO_PRIMES:
            for factor, add in ((1, 0), (None, "x"), (0, 0), (241, 0)):
                self.assertTrue(same(told(self, affine, prime, factor, add), ("InvalidPrime", prime)))

    def test_invalid_factors(self):
        for factor in NO_NUMBERS:
            for add in (0, None, 1000000, True):
                self.assertTrue(same(told(self, affine, 2, factor, add), ("InvalidCount", factor)))

    def test_invalid_numbers(self):
        for add in NO_NUMBERS:
            for factor in (1, 2, 0, 999999, 999998, -999999):
                self.assertTrue(same(told(self, affine, 2, factor, add), ("InvalidCount", add)))

    def test_not_a_turn(self):
        for prime in PRIMES:
            for factor in range(-30, 31):
                if (factor - 1) % prime == 0:
                    self.assertIsInstance(affine(prime, factor, 3), Turner)
                else:
                    self.assertTrue(same(told(self, affine, prime, factor, 3), ("NotATurn", factor)))
        for factor in (999998, -999998):
            self.assertEqual(told(self, affine, 2, factor, 999999), ("NotATurn", factor))
        self.assertEqual(told(self, affine, 7, 999999, 0), ("NotATurn", 999999))

    def test_edges_of_the_numbers(self):
        self.assertEqual(told(self, affine, 2, 999999, 999999), ("TooMany", 240))
        self.assertEqual(told(self, affine, 2, -999999, -999999), ("TooMany", 240))
        for prime in PRIMES:
            for add in (999999, -999999):
                self.assertLess(len(affine(prime, 1, add)), 240)

    def test_most_states(self):
        for prime in PRIMES:
            for factor, add in FULL[prime]:
                turner = affine(prime, factor, add)
                self.assertEqual(len(turner), 240)
                for setting in long_settings(prime):
                    expected = setting_for(prime, number(prime, setting) * factor + add, len(setting))
                    self.assertEqual(turner(setting), expected)
            for factor, add in OVER[prime]:
                rows = numbered(prime, add, lambda carry: carries(prime, factor, carry))
                self.assertGreater(len(rows), 240)
                self.assertEqual(told(self, affine, prime, factor, add), ("TooMany", 240))


class Mixing(unittest.TestCase):
    def test_texts(self):
        self.assertEqual(mixing(2, 0).text, "2 0: 0 0,0")
        self.assertEqual(mixing(2, -1).text, "2 0: 1 0,0")
        self.assertEqual(mixing(2, 5).text, "2 0: 1 1,1; 0 2,2; 1 3,3; 0 3,3")
        self.assertEqual(mixing(3, -5).text, "3 0: 1 1,1,1; 1 2,2,2; 2 2,2,2")

    def test_figures_are_added_without_carry(self):
        for prime in PRIMES:
            for value in EDGES:
                turner = mixing(prime, value)
                self.assertEqual((turner.prime, turner.start), (prime, 0))
                for setting in settings_to_try(prime):
                    figures = setting_for(prime, value, len(setting))
                    expected = tuple((one + two) % prime for one, two in zip(setting, figures))
                    self.assertEqual(turner(setting), expected)

    def test_states(self):
        for prime in PRIMES:
            for value in EDGES:
                rows = numbered(prime, value, lambda rest: (rest % prime, [(rest - rest % prime) // prime] * prime))
                self.assertTrue(same(mixing(prime, value).states(), rows))

    def test_errors(self):
        for prime in NO_PRIMES:
            for value in (0, None, 1000000):
                self.assertTrue(same(told(self, mixing, prime, value), ("InvalidPrime", prime)))
        for value in NO_NUMBERS:
            self.assertTrue(same(told(self, mixing, 3, value), ("InvalidCount", value)))


class Stirring(unittest.TestCase):
    def test_texts(self):
        self.assertEqual(stirring(2, 1, 1).text, "2 0: 1 1,0; 0 1,0")
        # Reached: (1, 1), (0, 1), (0, 0) and (1, 0).
        self.assertEqual(stirring(2, 1, 2).text, "2 0: 1 1,0; 0 2,3; 0 2,3; 0 1,0")
        self.assertEqual(stirring(2, 2, 2).text, "2 0: 1 1,0; 1 2,3; 0 2,3; 0 1,0")
        self.assertEqual(stirring(3, 1, 1).text, "3 0: 1 1,0,2; 0 1,0,2; 1 1,0,2")

    def test_all_lags(self):
        for prime in PRIMES:
            for one in (1, 2, 3):
                for other in (1, 2, 3):
                    if prime == 7 and 3 in (one, other):
                        continue
                    turner = stirring(prime, one, other)
                    self.assertEqual((turner.prime, turner.start), (prime, 0))
                    self.assertEqual(len(turner), prime ** max(one, other))
                    for setting in settings_to_try(prime):
                        self.assertEqual(turner(setting), stirred(prime, one, other, setting))

    def test_states(self):
        for prime in PRIMES:
            for one in (1, 2, 3):
                for other in (1, 2, 3):
                    def step(last):
                        turn = last[one - 1] * last[other - 1] % prime
                        return turn, [(figure,) + last[:-1] for figure in range(prime)]

                    if prime < 7 or max(one, other) < 3:
                        rows = numbered(prime, (1,) * max(one, other), step)
                        self.assertTrue(same(stirring(prime, one, other).states(), rows))

    def test_alike_states_are_not_joined(self):
        self.assertEqual(alike_states(stirring(2, 1, 2)), [(0,), (1, 2), (3,)])
        self.assertEqual(len(stirring(5, 3, 3)), 125)
        self.assertLess(len(alike_states(stirring(5, 1, 3))), 125)

    def test_too_many(self):
        for one, other in ((3, 1), (1, 3), (3, 2), (2, 3), (3, 3)):
            self.assertEqual(told(self, stirring, 7, one, other), ("TooMany", 240))

    def test_looks_up(self):
        for low in (0, -1, -7, *FAR[2:]):
            for other in (1, 3, 4, 0, -2, None, True, "1", FAR[0]):
                self.assertTrue(same(told(self, stirring, 2, low, other), ("LooksUp", low)))
            for other in (1, 3, 4, None, False, True, "0", [0], FAR[0]):
                self.assertTrue(same(told(self, stirring, 2, other, low), ("LooksUp", low)))

    def test_invalid_counts(self):
        for wrong in [*ODD, 4, 5, 100, *FAR[:2]]:
            for other in (1, 2, 3, 4, None, False, "x"):
                self.assertTrue(same(told(self, stirring, 3, wrong, other), ("InvalidCount", wrong)))
            for right in (1, 2, 3):
                self.assertTrue(same(told(self, stirring, 7, right, wrong), ("InvalidCount", wrong)))

    def test_invalid_primes(self):
        for prime in NO_PRIMES:
            for one, other in ((1, 1), (0, 1), (None, 4), (3, 3)):
                self.assertTrue(same(told(self, stirring, prime, one, other), ("InvalidPrime", prime)))


class Compiled(unittest.TestCase):
    def test_examples(self):
        self.assertEqual(compiled(3, "add 4")((2, 2, 0)), (0, 1, 1))
        self.assertEqual(compiled(2, "times 3; add -1")((1, 1, 0)), (0, 0, 0))

    def test_the_empty_text(self):
        for prime in PRIMES:
            self.assertEqual(compiled(prime, ""), Turner.idle(prime))

    def test_one_line(self):
        for prime in PRIMES:
            self.assertEqual(compiled(prime, "add 5"), affine(prime, 1, 5))
            self.assertEqual(compiled(prime, "add 0"), affine(prime, 1, 0))
            self.assertEqual(compiled(prime, "add -999999"), affine(prime, 1, -999999))
            self.assertEqual(compiled(prime, "add 999999"), affine(prime, 1, 999999))
            self.assertEqual(compiled(prime, f"times {1 - 2 * prime}"), affine(prime, 1 - 2 * prime, 0))
            self.assertEqual(compiled(prime, "times 1"), affine(prime, 1, 0))
            self.assertEqual(compiled(prime, "mix 100"), mixing(prime, 100))
            self.assertEqual(compiled(prime, "mix -100"), mixing(prime, -100))
            self.assertEqual(compiled(prime, "stir 1 2"), stirring(prime, 1, 2))
            self.assertEqual(compiled(prime, "stir 2 1"), stirring(prime, 2, 1))
        self.assertEqual(compiled(3, "stir 3 1"), stirring(3, 3, 1))

    def test_lines_in_their_order(self):
        for prime in PRIMES:
            lines = ["add 1", f"times {prime + 1}", "mix 5", "stir 1 1", "add -2", f"times {1 - prime}", "mix -1"]
            for one in lines:
                for other in lines:
                    turner = compiled(prime, f"{one}; {other}")
                    self.assertEqual(turner, compiled(prime, one) * compiled(prime, other))
                    for setting in settings_to_try(prime)[::3]:
                        self.assertEqual(turner(setting), done(prime, other, done(prime, one, setting)))

    def test_several_lines(self):
        for prime, lines in ((2, ["add 3", "times -3", "mix 5", "stir 1 2"]), (3, ["mix 7", "add -5", "stir 1 1"]),
                             (5, ["times 6", "add 7", "add -7"]), (7, ["add 6", "mix -3", "times -6", "add 1"])):
            turner = compiled(prime, "; ".join(lines))
            product = Turner.idle(prime)
            for line in lines:
                product = product * compiled(prime, line)
            self.assertEqual(turner, product)
            for setting in settings_to_try(prime):
                expected = setting
                for line in lines:
                    expected = done(prime, line, expected)
                self.assertEqual(turner(setting), expected)

    def test_many_lines(self):
        self.assertEqual(compiled(5, "; ".join(["add 0"] * 500)), Turner.idle(5))
        self.assertTrue(compiled(2, "; ".join(["mix 1"] * 501))((0, 0)) == (1, 0))

    def test_lines_of_another_form(self):
        wrong = [" ", "add", "add ", " add 1", "add 1 ", "add  1", "add 1 2", "Add 1", "ADD 1", "add1", "plus 1",
                 "add +1", "add -0", "add 00", "add 01", "add -01", "add 1000000", "add -1000000", "add 0000001",
                 "add -", "add --1", "add 1-", "add - 1", "add 1.0", "add 1e3", "add x", "add 1,", "add 1;", "add\n1",
                 "add 1\n", "\nadd 1", "add 1_0", "add 0x1", "1", "add one", "add True", "add None", "1 add",
                 "times", "times 1 1", "times -0", "times 1000001", "times 01", "mix", "mix 1 1", "mix -0", "mix 007",
                 "stir", "stir 1", "stir 1 1 1", "stir 1  1", "stir 1 x", "stir x 1", "stir -0 1", "stir 1 -0",
                 "stir 01 1", "stir 1 1000000", "stir 0 1000000", "stir 1000000 0", "stir 0", "stir 0 1 1", "stir 0 x",
                 "stir 1,1", ";", "add 1;add 1", "add 1 ;", "add 1,add 1", "idle", "undo", "add " + "9" * 6000]
        for prime in PRIMES:
            for line in wrong:
                self.assertTrue(same(told(self, compiled, prime, line), ("InvalidLine", 0)), line)
                self.assertTrue(same(told(self, compiled, prime, f"add 1; mix 2; {line}"), ("InvalidLine", 2)), line)
                self.assertTrue(same(told(self, compiled, prime, f"add 1; {line}; times 0"), ("InvalidLine", 1)), line)

    def test_empty_lines(self):
        for text, at in (("; ", 0), ("add 1; ", 1), ("; add 1", 0), ("add 1; ; add 1", 1), ("add 1;  add 1", 1),
                         ("add 1; add 2; ", 2), ("add 1 ; add 1", 0), ("add 1; ;", 1)):
            self.assertEqual(told(self, compiled, 3, text), ("InvalidLine", at), text)

    def test_not_a_turn(self):
        for prime in PRIMES:
            for factor in (0, prime, -1 if prime > 2 else -2, 2, -prime, 999999 - 999999 % prime):
                text = f"add 1; times {factor}; stir 0 0"
                self.assertTrue(same(told(self, compiled, prime, text), ("NotATurn", 1)))
            self.assertEqual(told(self, compiled, prime, "times 0"), ("NotATurn", 0))

    def test_looks_up(self):
        for line in ("stir 0 1", "stir 1 0", "stir -1 1", "stir 3 -3", "stir 0 0", "stir 4 0", "stir 0 4",
                     "stir -999999 999999", "stir 999999 -1"):
            for prime in PRIMES:
                self.assertTrue(same(told(self, compiled, prime, line), ("LooksUp", 0)))
                self.assertTrue(same(told(self, compiled, prime, f"mix 3; {line}; x"), ("LooksUp", 1)))

    def test_lags_above_3(self):
        for line in ("stir 4 1", "stir 1 4", "stir 4 4", "stir 999999 1", "stir 3 10"):
            for prime in PRIMES:
                self.assertTrue(same(told(self, compiled, prime, line), ("InvalidLine", 0)))
                self.assertTrue(same(told(self, compiled, prime, f"mix 3; {line}; x"), ("InvalidLine", 1)))

    def test_too_many_of_a_line(self):
        self.assertEqual(told(self, compiled, 2, "times 241"), ("TooMany", 240))
        self.assertEqual(told(self, compiled, 2, "add 1; times 241; add x"), ("TooMany", 240))
        self.assertEqual(told(self, compiled, 7, "stir 1 3; times 0"), ("TooMany", 240))
        self.assertEqual(told(self, compiled, 2, "add x; times 241"), ("InvalidLine", 0))

    def test_too_many_of_a_product(self):
        self.assertEqual(len(compiled(2, "times 15; times 15")), 225)
        self.assertEqual(told(self, compiled, 2, "times 31; times 31"), ("TooMany", 240))
        self.assertEqual(told(self, compiled, 2, "times 31; times 31; x"), ("TooMany", 240))
        self.assertEqual(told(self, compiled, 2, "times 31; x; times 31"), ("InvalidLine", 1))
        self.assertEqual(told(self, compiled, 2, "times 31; times 31; times 2"), ("TooMany", 240))
        self.assertEqual(told(self, compiled, 2, "times 31; times 2; times 31"), ("NotATurn", 1))
        self.assertEqual(told(self, compiled, 2, "times 31; times 31; stir 0 1"), ("TooMany", 240))
        self.assertEqual(told(self, compiled, 2, "times 31; stir 0 1; times 31"), ("LooksUp", 1))

    def test_invalid_primes(self):
        for prime in NO_PRIMES:
            for text in ("", "add 1", "x", "times 0", "stir 0 1"):
                self.assertTrue(same(told(self, compiled, prime, text), ("InvalidPrime", prime)))


class General(unittest.TestCase):
    def test_parameters(self):
        expected = {"affine": ["prime", "factor", "number"], "mixing": ["prime", "number"],
                    "stirring": ["prime", "one", "other"], "compiled": ["prime", "text"]}
        for name, parameters in expected.items():
            function = vars(programs)[name]
            self.assertEqual(list(inspect.signature(function).parameters), parameters)
            self.assertEqual(function.__module__, "lowturns.programs")
        self.assertEqual(affine(number=1, factor=1, prime=2), compiled(text="add 1", prime=2))

    def test_errors_copy_lists(self):
        wrong = [1, [2]]
        for error in (error_of(self, affine, 2, wrong, 0), error_of(self, affine, 2, 1, wrong),
                      error_of(self, mixing, 2, wrong), error_of(self, stirring, 2, 1, wrong),
                      error_of(self, affine, wrong, 1, 1)):
            self.assertEqual((error.given, error.details), ([1, [2]], ([1, [2]],)))
            wrong[1].append(3)
            self.assertEqual((error.given, error.details), ([1, [2]], ([1, [2]],)))
            wrong[1].pop()
