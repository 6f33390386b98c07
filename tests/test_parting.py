"""The last sentences of [6], [7] and the interface of lowturns/parting.py."""

import inspect
import unittest

from lowturns import parting
from lowturns.parting import alike_states, first_difference, is_same, least, reached
from lowturns.turners import Turner
from tests.samples import PRIMES, all_settings, counter, few_settings, mixed, ring, same, told, turners, walk


def reached_in_order(turner):
    """The states that are reached: those of each round of targets behind those of the rounds ahead."""
    order = [turner.start]
    for state in order:
        for figure in range(turner.prime):
            if turner.target(state, figure) not in order:
                order.append(turner.target(state, figure))
    return order


def parted(turner):
    """The pairs of states that are not alike, found by marking pairs with a parted pair of targets."""
    many, figures = range(len(turner)), range(turner.prime)
    marked = {(a, b) for a in many for b in many if turner.turn(a) != turner.turn(b)}
    grown = True
    while grown:
        grown = False
        for a in many:
            for b in many:
                if (a, b) not in marked and any(
                        (turner.target(a, x), turner.target(b, x)) in marked for x in figures):
                    marked.add((a, b))
                    grown = True
    return marked


def doubled(turner, seed):
    """A turner that does the same with each state three times, in another order, the start not at 0."""
    many, prime = len(turner), turner.prime
    names = [(state, copy) for copy in (2, 0, 1) for state in reversed(range(many))]
    places = {name: at for at, name in enumerate(names)}
    rows = []
    for state, copy in names:
        targets = [places[turner.target(state, x), (copy + x * seed + state) % 3] for x in range(prime)]
        rows.append((turner.turn(state), tuple(targets)))
    return Turner(prime, rows, start=places[turner.start, seed % 3])


def brute_difference(one, other, most):
    """The first setting in the order of the document that tells two turners apart, of at most most settings a dial."""
    dials = 0
    while one.prime ** dials <= most:
        for setting in sorted(all_settings(one.prime, dials)):
            ones, others = (walk(two.states(), two.start, setting, two.prime)[0] for two in (one, other))
            if ones != others:
                return setting
        dials += 1
    return None


def picky(prime, many, figures):
    """A turner that turns a dial only behind a row of figures, one for each state but the last one."""
    rows = [(0, tuple(at + 1 if x == figures[at] else 0 for x in range(prime))) for at in range(many - 1)]
    return Turner(prime, rows + [(1, (0,) * prime)])


class Reached(unittest.TestCase):
    def test_by_hand(self):
        turner = Turner(3, [(0, (0, 0, 0)), (1, (4, 1, 2)), (0, (2, 2, 1)), (2, (0, 1, 2)), (0, (4, 4, 5)),
                            (1, (5, 5, 5))], start=1)
        self.assertTrue(same(reached(turner), [1, 4, 2, 5]))
        self.assertEqual(reached(turner.started(3)), [3, 0, 1, 2, 4, 5])
        self.assertEqual(reached(turner.started(0)), [0])
        self.assertEqual(reached(turner.started(5)), [5])

    def test_many(self):
        for prime in PRIMES:
            for turner in turners(prime):
                for start in range(len(turner)):
                    self.assertTrue(same(reached(turner.started(start)), reached_in_order(turner.started(start))))

    def test_most_states(self):
        for prime in PRIMES:
            self.assertEqual(reached(Turner(prime, ring(prime, 240))), list(range(240)))
            self.assertEqual(reached(Turner(prime, ring(prime, 240), start=7)), [*range(7, 240), *range(7)])
            self.assertEqual(reached(Turner(prime, ring(prime, 240, back=239), start=200)), list(range(200, 240)))
            turner = Turner(prime, mixed(prime, 240, 1), start=99)
            self.assertEqual(reached(turner), reached_in_order(turner))

    def test_states_of_products_are_reached_in_order(self):
        for prime in PRIMES:
            for turner in turners(prime)[:9]:
                product = turner * counter(prime)
                self.assertEqual(reached(product), list(range(len(product))))

    def test_new_lists(self):
        turner = counter(5)
        reached(turner).clear()
        self.assertEqual(reached(turner), [0, 1])


class Alike(unittest.TestCase):
    def test_by_hand(self):
        turner = Turner(2, [(1, (3, 1)), (0, (1, 2)), (0, (1, 4)), (1, (0, 2)), (0, (4, 0))])
        self.assertTrue(same(alike_states(turner), [(0,), (1,), (2,), (3,), (4,)]))
        turner = Turner(2, [(1, (3, 1)), (0, (4, 2)), (0, (1, 4)), (1, (0, 2)), (0, (2, 1))], start=4)
        self.assertTrue(same(alike_states(turner), [(0, 3), (1, 2, 4)]))

    def test_all_alike(self):
        for prime in PRIMES:
            for many in (1, 2, 5, 240):
                for turn in (0, prime - 1):
                    turner = Turner(prime, [(turn, targets) for _, targets in mixed(prime, many, 1)])
                    self.assertEqual(alike_states(turner), [tuple(range(many))])

    def test_none_alike(self):
        for prime in PRIMES:
            for many in (1, 2, 5, 240):
                states = ring(prime, many)
                states[-1] = (1, states[-1][1])
                self.assertEqual(alike_states(Turner(prime, states)), [(at,) for at in range(many)])

    def test_parted_at_one_figure_alone(self):
        for prime in PRIMES:
            for figure in range(prime):
                for many in (2, 9, 240):
                    rows = [(0, tuple(at + 1 if x == figure else 0 for x in range(prime))) for at in range(many - 1)]
                    turner = Turner(prime, rows + [(1, (0,) * prime)])
                    self.assertEqual(alike_states(turner), [(at,) for at in range(many)])

    def test_states_that_are_not_reached_count(self):
        turner = Turner(2, [(0, (0, 0)), (0, (2, 1)), (1, (0, 0)), (0, (0, 3)), (1, (3, 0))])
        self.assertEqual(alike_states(turner), [(0, 3), (1,), (2, 4)])

    def test_the_start_does_not_matter(self):
        for turner in turners(3):
            for start in range(len(turner)):
                self.assertEqual(alike_states(turner.started(start)), alike_states(turner))

    def test_many(self):
        for prime in PRIMES:
            for base in turners(prime)[:12]:
                for turner in (base, doubled(base, 1), doubled(base, 2)):
                    marked = parted(turner)
                    classes = alike_states(turner)
                    self.assertEqual(sorted(state for part in classes for state in part), list(range(len(turner))))
                    self.assertEqual(classes, sorted(tuple(sorted(part)) for part in classes))
                    place = {state: at for at, part in enumerate(classes) for state in part}
                    for a in place:
                        for b in place:
                            self.assertEqual(place[a] == place[b], (a, b) not in marked)

    def test_alike_states_do_the_same(self):
        for prime in (2, 3):
            for turner in turners(prime):
                settings = all_settings(prime, 7 if prime == 2 else 4)
                does = [[walk(turner.states(), at, setting, prime)[0] for setting in settings]
                        for at in range(len(turner))]
                place = {state: at for at, part in enumerate(alike_states(turner)) for state in part}
                for a in place:
                    for b in place:
                        if place[a] == place[b]:
                            self.assertEqual(does[a], does[b])
                        elif len(turner) <= (7 if prime == 2 else 4):
                            self.assertNotEqual(does[a], does[b])

    def test_new_lists(self):
        turner = counter(5)
        alike_states(turner).clear()
        self.assertTrue(same(alike_states(turner), [(0,), (1,)]))


class Least(unittest.TestCase):
    def test_by_hand(self):
        turner = Turner(2, [(1, (3, 1)), (0, (4, 2)), (0, (1, 4)), (1, (0, 2)), (0, (2, 1))], start=3)
        self.assertEqual(least(turner), Turner(2, [(1, (0, 1)), (0, (1, 1))]))
        self.assertEqual(least(turner.started(4)), Turner.idle(2))
        turner = Turner(3, [(2, (0, 1, 2)), (1, (2, 2, 0)), (0, (2, 1, 1))], start=1)
        self.assertEqual(least(turner), Turner(3, [(1, (1, 1, 2)), (0, (1, 0, 0)), (2, (2, 0, 1))]))

    def test_what_it_is(self):
        for prime in PRIMES:
            for base in turners(prime):
                for start in {base.start, 0, len(base) - 1}:
                    turner = base.started(start)
                    small = least(turner)
                    self.assertIsInstance(small, Turner)
                    self.assertEqual((small.prime, small.start), (prime, 0))
                    self.assertEqual(alike_states(small), [(at,) for at in range(len(small))])
                    self.assertEqual(reached_in_order(small), list(range(len(small))))
                    for setting in few_settings(prime, 60):
                        self.assertEqual(small(setting), turner(setting))
                    self.assertIsNone(first_difference(small, turner))
                    classes = {tuple(part) for part in alike_states(turner) if set(part) & set(reached(turner))}
                    self.assertEqual(len(small), len(classes))

    def test_in_another_order_and_with_states_twice(self):
        for prime in PRIMES:
            for base in turners(prime):
                for seed in (1, 2):
                    self.assertEqual(least(doubled(base, seed)), least(base))

    def test_twice(self):
        for prime in PRIMES:
            for turner in turners(prime):
                self.assertEqual(least(least(turner)), least(turner))

    def test_most_states(self):
        for prime in PRIMES:
            self.assertEqual(least(Turner(prime, ring(prime, 240), start=5)), Turner.idle(prime))
            states = ring(prime, 240)
            states[4] = (1, states[4][1])
            turner = Turner(prime, states, start=5)
            small = least(turner)
            self.assertEqual(small, Turner(prime, [*ring(prime, 240)[:239], (1, (0,) * prime)]))
            turner = Turner(prime, mixed(prime, 240, 2), start=239)
            self.assertEqual(least(turner).start, 0)
            self.assertTrue(is_same(least(turner), turner))

    def test_the_turner_stays(self):
        turner = Turner(2, [(1, (2, 1)), (0, (1, 1)), (1, (0, 1))], start=2)
        least(turner), reached(turner), alike_states(turner)
        self.assertEqual(turner, Turner(2, [(1, (2, 1)), (0, (1, 1)), (1, (0, 1))], start=2))


class Difference(unittest.TestCase):
    def test_by_hand(self):
        # Behind the figures 1 and 0 only one of them turns.
        one = Turner(2, [(0, (0, 1)), (0, (2, 1)), (1, (2, 2))])
        self.assertTrue(same(first_difference(one, Turner.idle(2)), (1, 0, 0)))
        self.assertEqual(first_difference(Turner.idle(2), one), (1, 0, 0))
        self.assertEqual(first_difference(one, one.started(1)), (0, 0))
        self.assertEqual(first_difference(one, one.started(2)), (0,))
        self.assertIsNone(first_difference(one, one))

    def test_it_has_a_dial_at_least(self):
        for prime in PRIMES:
            for turn in range(1, prime):
                turner = Turner(prime, [(turn, (0,) * prime)])
                self.assertTrue(same(first_difference(turner, Turner.idle(prime)), (0,)))

    def test_shortest_and_then_least(self):
        # (2, 0) and (1, 2, 0) and (0, 1, 0) differ, and so do (1, 1) and (2, 1).
        late = [(0, (1, 2, 3)), (0, (1, 3, 1)), (0, (2, 2, 3)), (1, (3, 3, 3))]
        self.assertEqual(first_difference(Turner(3, late), Turner.idle(3)), (2, 0))
        late[0] = (0, (1, 2, 0))
        self.assertEqual(first_difference(Turner(3, late), Turner.idle(3)), (0, 1, 0))
        late[1] = (0, (1, 1, 1))
        self.assertEqual(first_difference(Turner(3, late), Turner.idle(3)), (1, 2, 0))

    def test_many(self):
        for prime in PRIMES:
            few = turners(prime)[:9]
            for one in few:
                for other in few:
                    expected = brute_difference(one, other, 250)
                    found = first_difference(one, other)
                    if expected is None and found is not None:
                        self.assertGreater(prime ** len(found), 250)
                        self.assertNotEqual(walk(one.states(), one.start, found, prime)[0],
                                            walk(other.states(), other.start, found, prime)[0])
                    else:
                        self.assertTrue(same(found, expected))
                    self.assertEqual(is_same(one, other), found is None)
                    self.assertEqual(first_difference(other, one), found)

    def test_turners_that_do_the_same(self):
        for prime in PRIMES:
            for turner in turners(prime):
                for other in (turner, least(turner), doubled(turner, 1), turner.inverse().inverse(),
                              turner * Turner.idle(prime)):
                    self.assertIsNone(first_difference(turner, other))
                    self.assertIs(is_same(turner, other), True)
                self.assertTrue(is_same(turner * turner.inverse(), Turner.idle(prime)))

    def test_what_is_not_reached_does_not_matter(self):
        one = Turner(2, [(1, (0, 0)), (1, (0, 1))])
        other = Turner(2, [(0, (0, 1)), (1, (1, 1))], start=1)
        self.assertTrue(is_same(one, other))
        self.assertIs(is_same(one, other.started(0)), False)

    def test_more_than_200_figures(self):
        for prime in PRIMES:
            figures = [(at * at + at // 3) % prime for at in range(239)]
            one = picky(prime, 240, figures)
            self.assertTrue(same(first_difference(one, Turner.idle(prime)), tuple(figures) + (0,)))
            self.assertIs(is_same(one, Turner.idle(prime)), False)
            one, other = ring(prime, 240), ring(prime, 240, back=1)
            one[239], other[239] = (1, one[239][1]), (1, other[239][1])
            found = first_difference(Turner(prime, one), Turner(prime, other))
            # One turns the dials 239, 479 .., the other one 239, 478 ..
            self.assertEqual(found, (0,) * 479)

    def test_turns_on_the_way_do_not_lead_astray(self):
        # Both turn the dial 0, so that what it shows ahead of the turn is what leads on.
        one = Turner(3, [(1, (1, 2, 1)), (0, (1, 1, 1)), (2, (1, 1, 1))])
        other = Turner(3, [(1, (1, 1, 1)), (0, (1, 1, 1))])
        self.assertEqual(first_difference(one, other), (1, 0))

    def test_primes_differ(self):
        for one in PRIMES:
            for other in PRIMES:
                if one != other:
                    for call in (first_difference, is_same):
                        self.assertEqual(told(self, call, counter(one), counter(other)), ("PrimesDiffer",))
                        self.assertEqual(told(self, call, Turner.idle(one), Turner.idle(other)), ("PrimesDiffer",))


class General(unittest.TestCase):
    def test_parameters(self):
        expected = {"reached": ["turner"], "alike_states": ["turner"], "least": ["turner"],
                    "first_difference": ["one", "other"], "is_same": ["one", "other"]}
        for name, parameters in expected.items():
            function = vars(parting)[name]
            self.assertEqual(list(inspect.signature(function).parameters), parameters)
            self.assertEqual(function.__module__, "lowturns.parting")
        self.assertEqual(first_difference(other=counter(2), one=Turner.idle(2)), (0,))
        self.assertEqual(reached(turner=counter(2)), [0, 1])
