"""[3] and the interface under lowturns/figures.py."""

import inspect
import unittest

from lowturns import figures
from lowturns.figures import is_setting, number_of, setting_of, settings
from tests.samples import FAR, ODD, PRIMES, all_settings, few_settings, same, told

NO_PRIMES = ODD + FAR + [-7, -2, -1, 0, 1, 4, 6, 8, 9, 10, 11, 13]
MOST_DIALS = {2: 14, 3: 9, 5: 6, 7: 5}


def no_settings(prime):
    """Values that are no settings of the prime: wrong figures at each place, wrong kinds."""
    wrong = [-1, prime, prime + 1, True, False, None, "0", "", 0.0, (), (0,), [], [0], *FAR]
    found = [(0, prime - 1, 0)[:at] + (value,) + (0, prime - 1, 0)[at:] for value in wrong for at in range(4)]
    found += [(value,) for value in wrong]
    found += [None, True, False, 0, 1, "", "0", "010", 0.5, [], [0], [0, 1], [[0]], *FAR]
    found += [(0,) * 201, (prime - 1,) * 300, (0,) * 199 + (prime,), (prime,) + (0,) * 199]
    return found


class Primes(unittest.TestCase):
    def test_primes(self):
        self.assertTrue(same(figures.PRIMES, (2, 3, 5, 7)))

    def test_no_primes(self):
        for prime in NO_PRIMES:
            error = ("InvalidPrime", prime)
            self.assertTrue(same(told(self, is_setting, prime, ()), error))
            self.assertTrue(same(told(self, number_of, prime, ()), error))
            self.assertTrue(same(told(self, setting_of, prime, 0, 0), error))
            self.assertTrue(same(told(self, lambda given: list(settings(given, 0)), prime), error))


class IsSetting(unittest.TestCase):
    def test_settings(self):
        for prime in PRIMES:
            for setting in few_settings(prime):
                self.assertIs(is_setting(prime, setting), True)

    def test_numbers_of_dials(self):
        for prime in PRIMES:
            for figure in range(prime):
                self.assertIs(is_setting(prime, (figure,) * 199), True)
                self.assertIs(is_setting(prime, (figure,) * 200), True)
                self.assertIs(is_setting(prime, (figure,) * 201), False)

    def test_other_values(self):
        for prime in PRIMES:
            for value in no_settings(prime):
                self.assertIs(is_setting(prime, value), False, value)

    def test_odd_values(self):
        for value in ODD:
            self.assertIs(is_setting(7, value), False, value)

    def test_the_prime_is_looked_at_first(self):
        self.assertEqual(told(self, is_setting, 4, "x"), ("InvalidPrime", 4))


class NumberOf(unittest.TestCase):
    def test_example(self):
        self.assertEqual(number_of(3, (1, 0, 2)), 19)

    def test_sum_of_figures_times_powers(self):
        for prime in PRIMES:
            for setting in few_settings(prime):
                expected = sum(figure * prime ** dial for dial, figure in enumerate(setting))
                self.assertTrue(same(number_of(prime, setting), expected))

    def test_two_hundred_dials(self):
        for prime in PRIMES:
            self.assertEqual(number_of(prime, (prime - 1,) * 200), prime ** 200 - 1)
            self.assertEqual(number_of(prime, (0,) * 199 + (1,)), prime ** 199)
            self.assertEqual(told(self, number_of, prime, (0,) * 201), ("InvalidSetting", (0,) * 201))

    def test_no_settings(self):
        for prime in PRIMES:
            for value in no_settings(prime):
                self.assertTrue(same(told(self, number_of, prime, value), ("InvalidSetting", value)))

    def test_order_of_errors(self):
        self.assertEqual(told(self, number_of, 6, [9]), ("InvalidPrime", 6))
        self.assertEqual(told(self, number_of, True, (True,)), ("InvalidPrime", True))


class SettingOf(unittest.TestCase):
    def test_example(self):
        self.assertEqual(setting_of(2, -1, 3), (1, 1, 1))

    def test_there_and_back(self):
        for prime in PRIMES:
            for setting in few_settings(prime):
                self.assertTrue(same(setting_of(prime, number_of(prime, setting), len(setting)), setting))

    def test_rests(self):
        numbers = [*range(-70, 71), *FAR, 123456789012345678901234567890, -987654321098765432109876543210]
        for prime in PRIMES:
            for number in numbers:
                for dials in (0, 1, 2, 3, 17, 200):
                    setting = setting_of(prime, number, dials)
                    self.assertTrue(is_setting(prime, setting))
                    self.assertEqual(len(setting), dials)
                    self.assertEqual(number_of(prime, setting), number % prime ** dials)

    def test_numbers_of_dials(self):
        self.assertEqual(setting_of(2, 5, 0), ())
        self.assertEqual(setting_of(7, -1, 200), (6,) * 200)
        for dials in [*ODD, *FAR, -1, 201, 202]:
            self.assertTrue(same(told(self, setting_of, 3, 5, dials), ("InvalidCount", dials)))

    def test_order_of_errors(self):
        self.assertEqual(told(self, setting_of, 9, 5, 201), ("InvalidPrime", 9))


class Settings(unittest.TestCase):
    def test_example(self):
        self.assertEqual(list(settings(2, 2)), [(0, 0), (1, 0), (0, 1), (1, 1)])

    def test_ascending_numbers(self):
        for prime in PRIMES:
            for dials in range(4):
                found = list(settings(prime, dials))
                self.assertTrue(same(found, all_settings(prime, dials)))
                self.assertEqual([number_of(prime, one) for one in found], list(range(prime ** dials)))

    def test_no_dials(self):
        for prime in PRIMES:
            self.assertEqual(list(settings(prime, 0)), [()])

    def test_most(self):
        for prime, dials in MOST_DIALS.items():
            found = list(settings(prime, dials))
            self.assertEqual(len(found), prime ** dials)
            self.assertEqual(found[-1], (prime - 1,) * dials)
            self.assertEqual(found[-2], (prime - 2,) + (prime - 1,) * (dials - 1))
            for many in (dials + 1, dials + 2, 200):
                self.assertEqual(told(self, lambda: list(settings(prime, many))), ("TooMany", 20000))

    def test_wrong_numbers_of_dials(self):
        for dials in [*ODD, *FAR, -1, 201, 300]:
            error = told(self, lambda: list(settings(5, dials)))
            self.assertTrue(same(error, ("InvalidCount", dials)))

    def test_order_of_errors(self):
        self.assertEqual(told(self, lambda: list(settings(1, 201))), ("InvalidPrime", 1))
        self.assertEqual(told(self, lambda: list(settings(1, 200))), ("InvalidPrime", 1))

    def test_errors_come_with_the_first_item(self):
        for prime, dials, code in ((4, 1, "InvalidPrime"), (2, -1, "InvalidCount"), (2, 15, "TooMany")):
            waiting = settings(prime, dials)
            self.assertEqual(told(self, next, waiting)[0], code)

    def test_it_is_a_generator(self):
        self.assertTrue(inspect.isgenerator(settings(2, 3)))
        waiting = settings(3, 9)
        self.assertEqual([next(waiting), next(waiting)], [(0,) * 9, (1,) + (0,) * 8])


class Interface(unittest.TestCase):
    def test_parameters(self):
        expected = {is_setting: ["prime", "value"], number_of: ["prime", "setting"],
                    setting_of: ["prime", "number", "dials"], settings: ["prime", "dials"]}
        for function, names in expected.items():
            self.assertEqual(list(inspect.signature(function).parameters), names)
            self.assertEqual(function.__module__, "lowturns.figures")

    def test_by_name(self):
        self.assertIs(is_setting(value=(0, 1), prime=2), True)
        self.assertEqual(number_of(setting=(1, 0, 2), prime=3), 19)
        self.assertEqual(setting_of(dials=3, number=-1, prime=2), (1, 1, 1))
        self.assertEqual(setting_of(2, dials=2, number=2), (0, 1))
        self.assertEqual(list(settings(dials=1, prime=3)), [(0,), (1,), (2,)])

    def test_a_wrong_list_stays_and_is_copied(self):
        inner = [1]
        value = [0, inner]
        error = told(self, number_of, 2, value)
        self.assertEqual(value, [0, [1]])
        inner.append(2)
        self.assertEqual(error, ("InvalidSetting", [0, [1]]))
