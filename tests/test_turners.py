"""[4] and the interface of the class Turner in lowturns/turners.py, apart from [5], [6] and [8]."""

import inspect
import unittest

from lowturns.turners import Turner
from tests.samples import FAR, ODD, PRIMES, counter, dials_of, few_settings, mixed, ring, same, told, turners, walk

NO_PRIMES = ODD + FAR + [-2, -1, 0, 1, 4, 6, 8, 9, 11]
NO_STATE = ODD + FAR + [-1]


def wrong_states(prime, many):
    """Items that are no states of a turner with so many states."""
    right = (0,) * prime
    found = [(turn, right) for turn in [prime, prime + 1, -1, *ODD, *FAR]]
    found += [(0, targets) for targets in [list(right), right[1:], right + (0,), (), prime, 0, *ODD, *FAR]]
    for at in range(prime):
        for target in [many, many + 1, -1, *ODD, *FAR]:
            found.append((0, right[:at] + (target,) + right[at + 1:]))
    found += [[0, right], (0,), (right,), (0, right, 0), (0, 0, right), (right, 0), right, (), [], 0, None, "0 0,0"]
    return found + ODD


class Making(unittest.TestCase):
    def test_what_is_passed_is_told(self):
        for prime in PRIMES:
            for many in (1, 2, 7, 240):
                states = mixed(prime, many, 3)
                for start in (0, many // 2, many - 1):
                    turner = Turner(prime, states, start=start)
                    self.assertTrue(same([turner.prime, turner.start, turner.states()], [prime, start, states]))

    def test_the_start_may_be_omitted(self):
        self.assertEqual(Turner(2, mixed(2, 3, 1)).start, 0)

    def test_a_tuple_of_states(self):
        turner = Turner(3, tuple(mixed(3, 4, 1)), start=3)
        self.assertEqual(turner, Turner(3, mixed(3, 4, 1), start=3))
        self.assertIsInstance(turner.states(), list)
        self.assertEqual(told(self, Turner, 3, ()), ("InvalidState", 0))
        self.assertEqual(told(self, Turner, 3, ((0, (0, 0, 0)), 7)), ("InvalidState", 1))
        self.assertEqual(told(self, Turner, 2, ((0, (0, 0)),) * 241), ("InvalidState", 240))

    def test_no_prime(self):
        for prime in NO_PRIMES:
            self.assertTrue(same(told(self, Turner, prime, [(0, (0, 0))]), ("InvalidPrime", prime)))

    def test_no_states_at_all(self):
        self.assertEqual(told(self, Turner, 2, []), ("InvalidState", 0))

    def test_states_that_are_no_list(self):
        for value in (None, True, 5, "", "0 0,0"):
            self.assertEqual(told(self, Turner, 2, value), ("InvalidState", 0))

    def test_wrong_states(self):
        for prime in PRIMES:
            for many in (1, 2, 4):
                for wrong in wrong_states(prime, many):
                    for at in range(many):
                        states = [(0, (0,) * prime)] * many
                        states[at] = wrong
                        error = told(self, Turner, prime, states)
                        self.assertTrue(same(error, ("InvalidState", at)), (prime, states))

    def test_bounds_of_a_state(self):
        for prime in PRIMES:
            for many in (1, 3, 240):
                state = (prime - 1, (many - 1,) * prime)
                self.assertEqual(Turner(prime, [state] * many).states(), [state] * many)

    def test_the_first_wrong_state_counts(self):
        right = (1, (0, 1))
        self.assertEqual(told(self, Turner, 2, [right, 5, 6, right]), ("InvalidState", 1))
        self.assertEqual(told(self, Turner, 2, [right, right, right, 5]), ("InvalidState", 3))
        self.assertEqual(told(self, Turner, 2, [right] * 239 + [5]), ("InvalidState", 239))

    def test_most_states(self):
        for prime in PRIMES:
            self.assertEqual(len(Turner(prime, ring(prime, 240))), 240)
            for many in (241, 242, 300):
                self.assertEqual(told(self, Turner, prime, ring(prime, many)), ("InvalidState", 240))
                self.assertEqual(told(self, Turner, prime, [(0, (0,) * prime)] * many), ("InvalidState", 240))

    def test_wrong_states_among_too_many(self):
        right = (0, (0, 0))
        self.assertEqual(told(self, Turner, 2, [5] + [right] * 240), ("InvalidState", 0))
        self.assertEqual(told(self, Turner, 2, [right] * 239 + [5] * 2), ("InvalidState", 239))
        self.assertEqual(told(self, Turner, 2, [right] * 240 + [5]), ("InvalidState", 240))
        self.assertEqual(told(self, Turner, 2, [right] * 250 + [5]), ("InvalidState", 240))
        self.assertEqual(told(self, Turner, 2, [(0, (241, 0))] + [right] * 240), ("InvalidState", 0))

    def test_wrong_starts(self):
        for many in (1, 3, 240):
            for start in [*NO_STATE, many, many + 1]:
                error = told(self, Turner, 2, [(0, (0, 0))] * many, start=start)
                self.assertTrue(same(error, ("InvalidStart", start)))

    def test_order_of_errors(self):
        self.assertEqual(told(self, Turner, 4, [], start=9), ("InvalidPrime", 4))
        self.assertEqual(told(self, Turner, True, [5], start=9), ("InvalidPrime", True))
        self.assertEqual(told(self, Turner, 2, [], start=9), ("InvalidState", 0))
        self.assertEqual(told(self, Turner, 2, [(0, (0, 0)), 5], start=9), ("InvalidState", 1))
        self.assertEqual(told(self, Turner, 2, [(0, (0, 0))] * 241, start=300), ("InvalidState", 240))
        self.assertEqual(told(self, Turner, 2, [(0, (0, 0))], start=1), ("InvalidStart", 1))

    def test_most(self):
        self.assertTrue(same(Turner.MOST, 240))
        self.assertTrue(same(Turner.idle(2).MOST, 240))

    def test_idle(self):
        for prime in PRIMES:
            idle = Turner.idle(prime)
            self.assertTrue(same(idle.states(), [(0, (0,) * prime)]))
            self.assertTrue(same([idle.prime, idle.start], [prime, 0]))
            for setting in few_settings(prime):
                self.assertEqual(idle(setting), setting)

    def test_idle_of_no_prime(self):
        for prime in NO_PRIMES:
            self.assertTrue(same(told(self, Turner.idle, prime), ("InvalidPrime", prime)))


class Asking(unittest.TestCase):
    def test_turns_and_targets(self):
        for prime in PRIMES:
            for turner in turners(prime):
                for state, (turn, targets) in enumerate(turner.states()):
                    self.assertTrue(same(turner.turn(state), turn))
                    for figure in range(prime):
                        self.assertTrue(same(turner.target(state, figure), targets[figure]))

    def test_unknown_states(self):
        for many in (1, 3, 240):
            turner = Turner(3, ring(3, many))
            for state in [*NO_STATE, many, many + 1]:
                error = ("UnknownState", state)
                self.assertTrue(same(told(self, turner.turn, state), error))
                self.assertTrue(same(told(self, turner.target, state, 0), error))
                self.assertTrue(same(told(self, turner.target, state, 3), error))
                self.assertTrue(same(told(self, turner.started, state), error))

    def test_invalid_figures(self):
        for prime in PRIMES:
            turner = counter(prime)
            for figure in [*NO_STATE, prime, prime + 1]:
                for state in (0, 1):
                    self.assertTrue(same(told(self, turner.target, state, figure), ("InvalidFigure", figure)))

    def test_started(self):
        for prime in PRIMES:
            for turner in turners(prime):
                before = turner.start
                for state in range(len(turner)):
                    other = turner.started(state)
                    self.assertIsInstance(other, Turner)
                    self.assertEqual(other, Turner(prime, turner.states(), start=state))
                self.assertEqual(turner.start, before)

    def test_equal(self):
        one = Turner(2, [(0, (1, 0)), (1, (1, 1))], start=1)
        self.assertTrue(one == Turner(2, ((0, (1, 0)), (1, (1, 1))), start=1))
        self.assertFalse(one != Turner(2, ((0, (1, 0)), (1, (1, 1))), start=1))

    def test_unequal(self):
        one = Turner(2, [(0, (1, 0)), (1, (1, 1))], start=1)
        others = [one.started(0), Turner(2, [(1, (1, 0)), (1, (1, 1))], start=1), Turner.idle(2),
                  Turner(2, [(0, (1, 1)), (1, (1, 1))], start=1), Turner(2, [(0, (1, 0)), (1, (1, 0))], start=1),
                  Turner(2, [(0, (1, 0)), (1, (1, 1)), (0, (0, 0))], start=1)]
        for other in others:
            self.assertTrue(one != other)
            self.assertFalse(one == other)
            self.assertFalse(other == one)
        self.assertFalse(Turner.idle(2) == Turner.idle(3))
        self.assertTrue(Turner.idle(5) != Turner.idle(7))

    def test_equal_to_nothing_else(self):
        one = Turner.idle(2)
        for other in [*ODD, *FAR, 1, one.text, one.states(), (2, one.states(), 0), Turner, object()]:
            self.assertIs(one == other, False)
            self.assertIs(other == one, False)
            self.assertIs(one != other, True)
            self.assertIs(other != one, True)

    def test_len(self):
        for prime in PRIMES:
            for many in (1, 2, 3, 239, 240):
                self.assertEqual(len(Turner(prime, ring(prime, many))), many)

    def test_repr(self):
        self.assertEqual(repr(Turner(2, ring(2, 3))), "Turner(2, 3 states)")
        self.assertEqual(repr(Turner.idle(7)), "Turner(7, 1 states)")
        self.assertEqual(repr(Turner(5, ring(5, 240), start=9)), "Turner(5, 240 states)")


class Going(unittest.TestCase):
    def test_example(self):
        count = Turner.read("2 0: 1 1,0; 0 1,1")
        self.assertTrue(same([count((1, 1, 0)), count.path((1, 1, 0))], [(0, 0, 1), [0, 0, 0]]))

    def test_a_counter_counts(self):
        for prime in PRIMES:
            setting = (0,) * 3
            for number in range(prime ** 3):
                self.assertEqual(setting, (number % prime, number // prime % prime, number // prime ** 2))
                setting = counter(prime)(setting)
            self.assertEqual(setting, (0, 0, 0))

    def test_behind_and_path(self):
        for prime in PRIMES:
            for turner in turners(prime):
                for setting in few_settings(prime):
                    behind, path = walk(turner.states(), turner.start, setting, prime)
                    self.assertTrue(same(turner(setting), behind))
                    self.assertTrue(same(turner.path(setting), path))

    def test_one_to_one(self):
        for prime in PRIMES:
            settings = [one for one in few_settings(prime) if len(one) == dials_of(prime, 130)]
            for turner in turners(prime):
                self.assertEqual(len({turner(setting) for setting in settings}), len(settings))

    def test_what_is_above_does_not_change_what_is_below(self):
        for prime in PRIMES:
            for turner in turners(prime):
                for setting in few_settings(prime):
                    for dials in range(len(setting)):
                        low = setting[:dials]
                        self.assertEqual(turner(low), turner(setting)[:dials])
                        self.assertEqual(turner.path(low), turner.path(setting)[:dials])

    def test_two_hundred_dials(self):
        for prime in PRIMES:
            turner = Turner(prime, mixed(prime, 240, 5), start=239)
            setting = tuple(at * at % prime for at in range(200))
            behind, path = walk(turner.states(), 239, setting, prime)
            self.assertEqual((turner(setting), turner.path(setting)), (behind, path))

    def test_no_dials(self):
        self.assertTrue(same([counter(3)(()), counter(3).path(())], [(), []]))

    def test_invalid_settings(self):
        for prime in PRIMES:
            turner = counter(prime)
            wrong = [value for value in [*ODD, *FAR] if value != ()]
            wrong += [0, 1, [0, 0], (0,) * 201, (prime,), (0, prime), (-1, 0), (0, 0, True), (0, None, 0), ("0",)]
            for value in wrong:
                error = ("InvalidSetting", value)
                self.assertTrue(same(told(self, turner, value), error))
                self.assertTrue(same(told(self, turner.path, value), error))


class General(unittest.TestCase):
    """[2]: copies, names of parameters, and that turners never change."""

    def test_states_are_copied(self):
        states = mixed(2, 3, 1)
        turner = Turner(2, states)
        states[0] = (0, (0, 0))
        states.append((0, (0, 0)))
        self.assertEqual(turner, Turner(2, mixed(2, 3, 1)))

    def test_what_is_passed_stays(self):
        states = mixed(5, 6, 2)
        turner = Turner(5, states, start=2)
        for call in (turner.inverse, lambda: turner * turner, lambda: turner.power(-2), lambda: turner.started(1),
                     lambda: turner((1, 2, 3)), lambda: turner.path((1, 2, 3))):
            call()
        self.assertTrue(same(states, mixed(5, 6, 2)))
        self.assertEqual(turner, Turner(5, mixed(5, 6, 2), start=2))
        wrong = [(0, (0, 0)), [3]]
        told(self, Turner, 2, wrong)
        self.assertEqual(wrong, [(0, (0, 0)), [3]])

    def test_what_is_returned_is_new(self):
        turner = Turner(3, mixed(3, 4, 1))
        turner.states().clear()
        turner.states().append(5)
        path = turner.path((0, 1, 2))
        path.append(7)
        self.assertEqual(turner.states(), mixed(3, 4, 1))
        self.assertEqual(turner.path((0, 1, 2)), walk(mixed(3, 4, 1), 0, (0, 1, 2), 3)[1])

    def test_errors_change_nothing(self):
        turner = Turner(3, mixed(3, 4, 1), start=1)
        for call in (lambda: turner.turn(4), lambda: turner.target(0, 3), lambda: turner.started(-1),
                     lambda: turner((3,)), lambda: turner.path(None), lambda: turner.power(21),
                     lambda: turner * Turner.idle(2)):
            told(self, call)
        self.assertEqual(turner, Turner(3, mixed(3, 4, 1), start=1))

    def test_properties_cannot_be_assigned(self):
        turner = counter(2)
        for name in ("prime", "start", "text"):
            with self.assertRaises(AttributeError):
                setattr(turner, name, 1)
            self.assertIsInstance(vars(Turner)[name], property)

    def test_parameters(self):
        expected = {"__init__": ["self", "prime", "states", "start"], "states": ["self"], "turn": ["self", "state"],
                    "target": ["self", "state", "figure"], "started": ["self", "state"],
                    "__call__": ["self", "setting"], "path": ["self", "setting"], "inverse": ["self"],
                    "__mul__": ["self", "other"], "power": ["self", "count"], "__eq__": ["self", "other"],
                    "__len__": ["self"], "__repr__": ["self"]}
        for name, parameters in expected.items():
            self.assertEqual(list(inspect.signature(vars(Turner)[name]).parameters), parameters)
        self.assertIsInstance(vars(Turner)["idle"], staticmethod)
        self.assertIsInstance(vars(Turner)["read"], classmethod)
        self.assertEqual(list(inspect.signature(Turner.idle).parameters), ["prime"])
        self.assertEqual(list(inspect.signature(Turner.read).parameters), ["text"])
        self.assertEqual(Turner.__module__, "lowturns.turners")

    def test_by_name(self):
        turner = Turner(states=[(1, (1, 0)), (0, (1, 1))], prime=2, start=0)
        self.assertEqual(turner, counter(2))
        self.assertEqual(turner.turn(state=0), 1)
        self.assertEqual(turner.target(figure=1, state=0), 0)
        self.assertEqual(turner.started(state=1).start, 1)
        self.assertEqual(turner(setting=(1, 0)), (0, 1))
        self.assertEqual(turner.path(setting=(0, 0)), [0, 1])
        self.assertEqual(turner.power(count=1), turner)
        self.assertEqual(Turner.idle(prime=3).prime, 3)
        self.assertEqual(Turner.read(text="2 0: 1 1,0; 0 1,1"), turner)

    def test_the_start_is_keyword_only(self):
        self.assertRaises(TypeError, Turner, 2, [(0, (0, 0))], 0)

    def test_equal_calls_return_equal_results(self):
        for turner in turners(5):
            other = Turner(5, turner.states(), start=turner.start)
            self.assertEqual((turner * turner, turner.inverse(), turner.text), (other * other, other.inverse(), other.text))
