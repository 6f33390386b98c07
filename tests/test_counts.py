"""[11] and the interface of lowturns/counts.py."""

import inspect
import unittest

from lowturns import counts
from lowturns.counts import first_counts, next_counts, total, turn_total
from lowturns.parting import least
from lowturns.turners import Turner
from tests.samples import FAR, ODD, PRIMES, all_settings, counter, mixed, ring, same, told, turners, walk


def summed(turner, given):
    """The next counts by the sum of [11], state by state."""
    found = []
    for state in range(len(turner)):
        whole = 0
        for ahead in range(len(turner)):
            times = [turner.target(ahead, figure) for figure in range(turner.prime)].count(state)
            whole += given[ahead] * times
        found.append(whole % turner.prime)
    return found


def summed_total(turner, given):
    """The total of counts by [11]."""
    return sum(given[state] * turner.turn(state) for state in range(len(turner))) % turner.prime


def some_counts(prime, many):
    """Some counts of a turner with so many states."""
    squares = [at * at * 3 % prime for at in range(many)]
    return [[0] * many, [prime - 1] * many, [at % prime for at in range(many)], squares]


def wrong_counts(prime, many):
    """Values that are no counts of a turner with so many states."""
    right = [1] * many
    found = [right[1:], right + [0], [right], "1" * many, many, {0: 1}, [1] * 300 if many != 300 else []]
    found += [value for value in ODD + FAR if value not in ([0], [0, 1]) or len(value) != many]
    for at in {0, many // 2, many - 1}:
        for wrong in [prime, prime + 1, -1, *ODD, *FAR]:
            found.append(right[:at] + [wrong] + right[at + 1:])
    return found + [tuple(value) for value in found if isinstance(value, list)]


class FirstCounts(unittest.TestCase):
    def test_one_at_the_start(self):
        for prime in PRIMES:
            for turner in turners(prime):
                for start in range(len(turner)):
                    expected = [0] * len(turner)
                    expected[start] = 1
                    self.assertTrue(same(first_counts(turner.started(start)), expected))

    def test_most_states(self):
        turner = Turner(2, ring(2, 240), start=239)
        self.assertEqual(first_counts(turner), [0] * 239 + [1])


class NextCounts(unittest.TestCase):
    def test_by_hand(self):
        turner = Turner(3, [(1, (0, 1, 1)), (2, (2, 0, 2)), (0, (2, 2, 2))])
        self.assertTrue(same(next_counts(turner, [1, 0, 0]), [1, 2, 0]))
        self.assertEqual(next_counts(turner, [1, 2, 0]), [0, 2, 1])
        self.assertEqual(next_counts(turner, [0, 0, 2]), [0, 0, 0])
        self.assertEqual(next_counts(turner, (2, 2, 2)), [1, 1, 1])

    def test_the_sum(self):
        for prime in PRIMES:
            for turner in turners(prime):
                for given in some_counts(prime, len(turner)):
                    self.assertTrue(same(next_counts(turner, given), summed(turner, given)))
                    self.assertTrue(same(next_counts(turner, tuple(given)), summed(turner, given)))

    def test_most_states(self):
        for prime in PRIMES:
            turner = Turner(prime, mixed(prime, 240, 1), start=9)
            for given in some_counts(prime, 240):
                self.assertEqual(next_counts(turner, given), summed(turner, given))

    def test_wrong_counts(self):
        for prime in PRIMES:
            for many in (1, 2, 5):
                turner = Turner(prime, mixed(prime, many, 1))
                for wrong in wrong_counts(prime, many):
                    for call in (next_counts, turn_total):
                        self.assertEqual(told(self, call, turner, wrong), ("InvalidCounts",), wrong)

    def test_the_other_states_count_for_wrong_ones(self):
        # Unreached states have counts, too.
        turner = Turner(2, [(1, (0, 0)), (1, (1, 1))])
        self.assertEqual(told(self, next_counts, turner, [1]), ("InvalidCounts",))
        self.assertEqual(told(self, turn_total, turner, [1, 2]), ("InvalidCounts",))
        self.assertEqual(turn_total(turner, [1, 1]), 0)

    def test_what_is_passed_stays(self):
        turner = Turner(5, mixed(5, 6, 2))
        given = [1, 2, 3, 4, 0, 1]
        found = next_counts(turner, given)
        turn_total(turner, given)
        found.clear()
        self.assertEqual(given, [1, 2, 3, 4, 0, 1])
        wrong = [1, 2, 3, 4, 0, [1]]
        told(self, next_counts, turner, wrong)
        self.assertEqual(wrong, [1, 2, 3, 4, 0, [1]])
        first_counts(turner).clear()
        self.assertEqual(first_counts(turner), [1, 0, 0, 0, 0, 0])
        self.assertEqual(turner, Turner(5, mixed(5, 6, 2)))


class Totals(unittest.TestCase):
    def test_by_hand(self):
        turner = Turner(3, [(1, (0, 1, 1)), (2, (2, 0, 2)), (0, (2, 2, 2))])
        self.assertTrue(same([turn_total(turner, given) for given in ([1, 0, 0], [1, 2, 0], [0, 2, 1], [2, 2, 2])],
                             [1, 2, 1, 0]))
        self.assertTrue(same([total(turner, dials) for dials in range(3)], [1, 2, 1]))

    def test_the_sum(self):
        for prime in PRIMES:
            for turner in turners(prime):
                for given in some_counts(prime, len(turner)):
                    self.assertTrue(same(turn_total(turner, given), summed_total(turner, given)))
                    self.assertTrue(same(turn_total(turner, tuple(given)), summed_total(turner, given)))

    def test_of_few_dials(self):
        for prime in PRIMES:
            for turner in turners(prime):
                given = [0] * len(turner)
                given[turner.start] = 1
                for dials in range(12):
                    self.assertTrue(same(total(turner, dials), summed_total(turner, given)))
                    given = summed(turner, given)

    def test_it_is_how_far_the_dial_is_turned_in_one_round(self):
        # All settings of n dials, each once, whether they are one round or not.
        for prime in PRIMES:
            for turner in turners(prime):
                for dials in range(3 if prime > 2 else 7):
                    turned = 0
                    for setting in all_settings(prime, dials):
                        _, path = walk(turner.states(), turner.start, setting + (0,), prime)
                        turned += turner.turn(path[-1])
                    self.assertEqual(total(turner, dials), turned % prime)

    def test_a_counter(self):
        for prime in PRIMES:
            for dials in (0, 1, 2, 100, 4999, 5000):
                self.assertTrue(same(total(counter(prime), dials), 1))
                self.assertEqual(total(counter(prime).inverse(), dials), prime - 1)
                self.assertEqual(total(Turner.idle(prime), dials), 0)

    def test_5000_dials(self):
        for prime in PRIMES:
            turner = Turner(prime, mixed(prime, 4, 2), start=1)
            given = [0, 1, 0, 0]
            for _ in range(5000):
                given = summed(turner, given)
            self.assertEqual(total(turner, 5000), summed_total(turner, given))

    def test_each_step_counts(self):
        # A figure alone leads on, so the counts go round in 240 steps.
        rows = [(1 if at == 7 else 0, ((at + 1) % 240, at, at)) for at in range(240)]
        turner = Turner(3, rows)
        given = first_counts(turner)
        for dials in range(30):
            self.assertEqual(total(turner, dials), given[7])
            given = summed(turner, given)

    def test_invalid_counts(self):
        for dials in [*ODD, *FAR, -1, -2, 5001, 5002, 10000]:
            self.assertTrue(same(told(self, total, counter(2), dials), ("InvalidCount", dials)))


class Facts(unittest.TestCase):
    """[12] on the totals of products, inverses and least turners."""

    def test_products(self):
        for prime in PRIMES:
            for one in turners(prime)[:13]:
                for other in turners(prime)[:13]:
                    for dials in range(7):
                        whole = total(one, dials) + total(other, dials)
                        self.assertEqual(total(one * other, dials), whole % prime)

    def test_inverses(self):
        for prime in PRIMES:
            for turner in turners(prime):
                for dials in range(12):
                    self.assertEqual(total(turner.inverse(), dials), -total(turner, dials) % prime)

    def test_least_turners(self):
        for prime in PRIMES:
            for turner in turners(prime) + [Turner(prime, ring(prime, 9, back=3, turn=1), start=2)]:
                for dials in range(12):
                    self.assertEqual(total(least(turner), dials), total(turner, dials))


class General(unittest.TestCase):
    def test_parameters(self):
        expected = {"first_counts": ["turner"], "next_counts": ["turner", "counts"],
                    "turn_total": ["turner", "counts"], "total": ["turner", "dials"]}
        for name, parameters in expected.items():
            function = vars(counts)[name]
            self.assertEqual(list(inspect.signature(function).parameters), parameters)
            self.assertEqual(function.__module__, "lowturns.counts")
        self.assertEqual(next_counts(counts=[1, 0], turner=counter(2)), [1, 1])
        self.assertEqual(turn_total(counts=[1, 0], turner=counter(2)), 1)
        self.assertEqual(total(dials=3, turner=counter(2)), 1)
        self.assertEqual(first_counts(turner=counter(2)), [1, 0])
