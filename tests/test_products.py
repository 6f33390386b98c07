"""[5] and [6]: inverses, products and powers of turners."""

import unittest

from lowturns.turners import Turner
from tests.samples import FAR, ODD, PRIMES, all_settings, counter, few_settings, mixed, ring, same, told, turners, walk


def pairs_in_order(one, other):
    """The states of a product, straight from [6]."""
    prime = one.prime
    pairs = [(one.start, other.start)]
    rows = []
    for at in range(240):
        if at == len(pairs):
            break
        a, b = pairs[at]
        row = []
        for figure in range(prime):
            seen = (figure + one.turn(a)) % prime
            pair = (one.target(a, figure), other.target(b, seen))
            if pair not in pairs:
                pairs.append(pair)
            row.append(pairs.index(pair))
        rows.append(((one.turn(a) + other.turn(b)) % prime, tuple(row)))
    return rows


class Inverse(unittest.TestCase):
    def test_example(self):
        self.assertEqual(Turner.read("2 0: 1 1,0; 0 1,1").inverse().text, "2 0: 1 0,1; 0 1,1")

    def test_another_one_by_hand(self):
        turner = Turner(3, [(1, (0, 1, 2)), (2, (2, 1, 1)), (0, (1, 2, 0))], start=2)
        expected = Turner(3, [(2, (2, 0, 1)), (1, (1, 1, 2)), (0, (1, 2, 0))], start=2)
        self.assertEqual(turner.inverse(), expected)

    def test_turns_and_targets(self):
        for prime in PRIMES:
            for turner in turners(prime):
                inverse = turner.inverse()
                self.assertIsInstance(inverse, Turner)
                self.assertEqual((inverse.prime, inverse.start, len(inverse)), (prime, turner.start, len(turner)))
                for state in range(len(turner)):
                    turn = turner.turn(state)
                    self.assertTrue(same(inverse.turn(state), -turn % prime))
                    for figure in range(prime):
                        self.assertEqual(inverse.target(state, (figure + turn) % prime), turner.target(state, figure))

    def test_it_undoes_and_is_undone(self):
        for prime in PRIMES:
            for turner in turners(prime):
                inverse = turner.inverse()
                for setting in few_settings(prime):
                    self.assertEqual(inverse(turner(setting)), setting)
                    self.assertEqual(turner(inverse(setting)), setting)

    def test_the_path_stays(self):
        for prime in PRIMES:
            for turner in turners(prime):
                for setting in few_settings(prime):
                    self.assertEqual(turner.inverse().path(turner(setting)), turner.path(setting))

    def test_twice(self):
        for prime in PRIMES:
            for turner in turners(prime):
                self.assertEqual(turner.inverse().inverse(), turner)

    def test_most_states(self):
        turner = Turner(7, mixed(7, 240, 1), start=17)
        setting = tuple(at * 3 % 7 for at in range(200))
        self.assertEqual(turner.inverse()(turner(setting)), setting)


class Product(unittest.TestCase):
    def test_example(self):
        count = Turner.read("2 0: 1 1,0; 0 1,1")
        self.assertEqual((count * count).text, "2 0: 0 1,2; 1 3,1; 1 3,2; 0 3,3")

    def test_one_and_then_the_other(self):
        for prime in PRIMES:
            for one in turners(prime):
                for other in turners(prime)[2:9]:
                    product = one * other
                    for setting in few_settings(prime, 50):
                        self.assertEqual(product(setting), other(one(setting)))

    def test_the_order_matters(self):
        add = Turner.read("3 0: 1 1,1,0; 0 1,1,1")
        mix = Turner.read("3 0: 1 1,1,1; 1 1,1,1")
        self.assertEqual((add * mix)((2, 0)), (1, 2))
        self.assertEqual((mix * add)((2, 0)), (1, 1))
        self.assertEqual((add * mix)((1, 1)), (0, 2))
        self.assertEqual((mix * add)((1, 1)), (0, 0))

    def test_states_in_the_order_in_which_they_are_reached(self):
        for prime in PRIMES:
            for one in turners(prime):
                for other in turners(prime):
                    product = one * other
                    self.assertIsInstance(product, Turner)
                    self.assertTrue(same(product.states(), pairs_in_order(one, other)))
                    self.assertTrue(same([product.prime, product.start], [prime, 0]))

    def test_unreached_pairs_are_left_out(self):
        one = Turner(2, [(0, (1, 1)), (1, (2, 2)), (0, (2, 2))], start=2)
        self.assertEqual((one * one).states(), [(0, (0, 0))])
        self.assertEqual((one * one.started(1)).states(), [(1, (1, 1)), (0, (1, 1))])

    def test_the_idle_turner(self):
        for prime in PRIMES:
            for turner in turners(prime):
                one, other = turner * Turner.idle(prime), Turner.idle(prime) * turner
                self.assertEqual(one, other)
                for setting in few_settings(prime, 50):
                    self.assertEqual(one(setting), turner(setting))

    def test_primes_differ(self):
        for one in PRIMES:
            for other in PRIMES:
                if one != other:
                    self.assertEqual(told(self, lambda: counter(one) * counter(other)), ("PrimesDiffer",))
        self.assertEqual(told(self, lambda: Turner(2, mixed(2, 240, 1)) * Turner(3, mixed(3, 240, 1))),
                         ("PrimesDiffer",))

    def test_times_no_turner(self):
        for value in (None, 2, "2 0: 0 0,0", [(0, (0, 0))]):
            self.assertRaises(TypeError, lambda: Turner.idle(2) * value)

    def test_most_pairs(self):
        for prime in PRIMES:
            one, other = Turner(prime, ring(prime, 15)), Turner(prime, ring(prime, 16))
            self.assertEqual(len(one * other), 240)
            self.assertEqual(len(other * one), 240)
            self.assertEqual((one * other).states(), ring(prime, 240))
            late = Turner(prime, ring(prime, 17, back=1))
            self.assertEqual(told(self, lambda: late * one), ("TooMany", 240))
            self.assertEqual(told(self, lambda: one * late), ("TooMany", 240))

    def test_the_241st_pair_at_any_figure(self):
        for prime in PRIMES:
            for figure in range(prime):
                states = ring(prime, 240)
                states[239] = (0, tuple(0 if at == figure else 239 for at in range(prime)))
                one = Turner(prime, states)
                # The pair behind the last one, at this figure alone, is that of 0 and 1.
                other = Turner(prime, ring(prime, 2, back=1))
                self.assertEqual(told(self, lambda: one * other), ("TooMany", 240))
                self.assertEqual(len(one * Turner.idle(prime)), 240)

    def test_far_too_many_pairs(self):
        one, other = Turner(7, mixed(7, 240, 1)), Turner(7, mixed(7, 239, 2))
        self.assertEqual(told(self, lambda: one * other), ("TooMany", 240))

    def test_many_states_but_few_pairs(self):
        one = Turner(3, ring(3, 240))
        self.assertEqual(len(one * one), 240)

    def test_neither_is_changed(self):
        one, other = Turner(5, mixed(5, 4, 1), start=3), Turner(5, mixed(5, 3, 2), start=1)
        one * other
        self.assertEqual(one, Turner(5, mixed(5, 4, 1), start=3))
        self.assertEqual(other, Turner(5, mixed(5, 3, 2), start=1))


class Power(unittest.TestCase):
    def test_none(self):
        for prime in PRIMES:
            for turner in turners(prime):
                self.assertEqual(turner.power(0), Turner.idle(prime))

    def test_one(self):
        for prime in PRIMES:
            for turner in turners(prime):
                self.assertEqual(turner.power(1), turner)
                self.assertEqual(turner.power(-1), turner.inverse())

    def test_from_left_to_right(self):
        for prime in PRIMES:
            for turner in turners(prime)[:7]:
                self.assertEqual(turner.power(2), turner * turner)
                self.assertEqual(turner.power(3), (turner * turner) * turner)
                back = turner.inverse()
                self.assertEqual(turner.power(-2), back * back)
                self.assertEqual(turner.power(-3), (back * back) * back)

    def test_a_counter(self):
        for prime in PRIMES:
            dials = 8 if prime == 2 else 3
            for count in range(-20, 21):
                power = counter(prime).power(count)
                for setting in all_settings(prime, dials)[::7]:
                    number = sum(figure * prime ** dial for dial, figure in enumerate(setting))
                    expected = (number + count) % prime ** dials
                    found = sum(figure * prime ** dial for dial, figure in enumerate(power(setting)))
                    self.assertEqual(found, expected)

    def test_done_so_often(self):
        for prime in PRIMES:
            turner = Turner(prime, ring(prime, 3, turn=1), start=1)
            for count in range(21):
                ahead, back = turner.power(count), turner.power(-count)
                for setting in few_settings(prime, 30):
                    expected = setting
                    for _ in range(count):
                        expected = walk(turner.states(), 1, expected, prime)[0]
                    self.assertEqual(ahead(setting), expected)
                    self.assertEqual(back(expected), setting)

    def test_invalid_counts(self):
        turner = counter(2)
        for count in [*ODD, *FAR, 21, 22, -21, -22, 100]:
            self.assertTrue(same(told(self, turner.power, count), ("InvalidCount", count)))

    def test_too_many(self):
        turner = Turner(3, mixed(3, 20, 1))
        self.assertEqual(len(turner.power(1)), 20)
        for count in (2, 3, 20, -2, -3, -20):
            self.assertEqual(told(self, turner.power, count), ("TooMany", 240))
        self.assertEqual(told(self, turner.power, 21), ("InvalidCount", 21))

    def test_too_many_from_some_count_on(self):
        for prime, many, seed in ((2, 3, 1), (2, 4, 1), (3, 2, 2), (5, 2, 0), (2, 5, 2)):
            turner = Turner(prime, mixed(prime, many, seed))
            power = turner
            for count in range(2, 21):
                rows = pairs_in_order(power, turner) if power else []
                # A target of 240 and more is a pair too many; so are all further powers.
                if not rows or max(max(targets) for _, targets in rows) >= 240:
                    power = None
                    self.assertEqual(told(self, turner.power, count), ("TooMany", 240))
                else:
                    power = Turner(prime, rows)
                    self.assertEqual(turner.power(count), power)
