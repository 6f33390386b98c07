"""[3], [10], [12] and the interface of lowturns/walks.py, against going round by the turner itself."""

import unittest

from lowturns.counts import is_single_at, total, totals_below
from lowturns.figures import setting_of
from lowturns.programs import affine
from lowturns.turners import Turner
from lowturns.walks import place_of, round_length, round_lengths, round_of, setting_at
from tests.samples import FAR, ODD, PRIMES, all_settings, counter, dials_of, few_settings, late, lengths, round_from
from tests.samples import row, same, told, tried

SINGLE = Turner.read("2 0: 1 1,0; 0 1,1")
SPLIT = Turner.read("2 0: 1 1,1; 0 1,1")
# The greatest numbers of dials with at most 20000 settings.
MOST = {2: 14, 3: 9, 5: 6, 7: 5}


def first_of(turner, setting):
    """The first item of round_of."""
    return next(round_of(turner, setting))


def is_single(turner, dials):
    """Whether the totals at all numbers of dials below are not 0."""
    return all(total(turner, below) for below in range(dials))


class Rounds(unittest.TestCase):
    def test_by_hand(self):
        self.assertTrue(same(list(round_of(SINGLE, (1, 0))), [(1, 0), (0, 1), (1, 1), (0, 0)]))
        self.assertTrue(same(list(round_of(SPLIT, (1, 1))), [(1, 1), (0, 1)]))
        self.assertTrue(same(list(round_of(Turner.idle(7), (4, 6, 0))), [(4, 6, 0)]))
        self.assertTrue(same(round_lengths(SINGLE, 3), [8]))
        self.assertTrue(same(round_lengths(SPLIT, 3), [2, 2, 2, 2]))
        # The first dial stays; where it shows 1, the second one is turned.
        self.assertTrue(same(round_lengths(Turner(3, [(0, (1, 2, 1)), (0, (1,) * 3), (1, (1,) * 3)]), 2),
                             [1, 1, 1, 1, 1, 1, 3]))

    def test_rounds_of_all_settings(self):
        for prime in PRIMES:
            for turner in tried(prime):
                for setting in few_settings(prime, 50):
                    expected = round_from(turner, setting)
                    self.assertTrue(same(list(round_of(turner, setting)), expected))
                    self.assertTrue(same(round_length(turner, setting), len(expected)))

    def test_lengths_of_all_rounds(self):
        for prime in PRIMES:
            kinds = set()
            for turner in tried(prime):
                for dials in range(dials_of(prime, 400) + 1):
                    found = round_lengths(turner, dials)
                    self.assertTrue(same(found, sorted(lengths(turner, dials))))
                    kinds.add(len(found))
            self.assertGreater(len(kinds), 4)

    def test_no_dials(self):
        for prime in PRIMES:
            for turner in tried(prime):
                self.assertEqual(list(round_of(turner, ())), [()])
                self.assertEqual((round_length(turner, ()), round_lengths(turner, 0)), (1, [1]))
                self.assertTrue(same([place_of(turner, ()), setting_at(turner, 0, 5)], [0, ()]))

    def test_not_single_at_any_greater_number(self):
        for prime in PRIMES:
            for turner in tried(prime):
                singles = [len(round_lengths(turner, dials)) == 1 for dials in range(dials_of(prime, 400) + 1)]
                self.assertEqual(singles, sorted(singles, reverse=True))
                self.assertEqual(singles, [is_single(turner, dials) for dials in range(len(singles))])
                self.assertTrue(singles[0])

    def test_totals_below(self):
        for prime in PRIMES:
            for turner in tried(prime):
                for dials in (0, 1, 2, 7):
                    expected = [total(turner, below) for below in range(dials)]
                    self.assertTrue(same(totals_below(turner, dials), expected))
                    self.assertIs(is_single_at(turner, dials), 0 not in expected)

    def test_new_lists_and_the_turner_stays(self):
        turner = Turner.read(SPLIT.text)
        round_lengths(turner, 2).append(9)
        self.assertEqual(round_lengths(turner, 2), [2, 2])
        list(round_of(turner, (0, 1)))
        self.assertEqual(turner, SPLIT)


class Bounds(unittest.TestCase):
    def test_the_greatest_number_of_dials(self):
        for prime, dials in MOST.items():
            self.assertLessEqual(prime ** dials, 20000)
            self.assertGreater(prime ** (dials + 1), 20000)
            turner = counter(prime)
            many = prime ** dials
            last = (prime - 1,) * dials
            self.assertEqual(round_lengths(turner, dials), [many])
            self.assertEqual(round_length(turner, last), many)
            self.assertEqual(place_of(turner, last), many - 1)
            self.assertEqual(setting_at(turner, dials, -1), last)
            found = list(round_of(turner, last))
            self.assertEqual((len(found), found[0], found[1], found[-1]),
                             (many, last, (0,) * dials, (prime - 2,) + last[1:]))

    def test_too_many(self):
        for prime, dials in MOST.items():
            for many in (dials + 1, dials + 2, 199, 200):
                for turner in (counter(prime), Turner.idle(prime)):
                    for call in (first_of, round_length, place_of):
                        self.assertEqual(told(self, call, turner, (0,) * many), ("TooMany", 20000))
                    self.assertEqual(told(self, round_lengths, turner, many), ("TooMany", 20000))
                    self.assertEqual(told(self, setting_at, turner, many, 0), ("TooMany", 20000))

    def test_wrong_settings(self):
        for prime in PRIMES:
            wrong = [value for value in ODD if value != ()] + FAR + [
                0, 1, [0, 0], (prime,), (0, -1), (0, True), (0, None), (0, "1"), ((0,),), (0,) * 201, (prime,) * 200,
                (0,) * 199 + (prime,), (0.0,)]
            for turner in (counter(prime), Turner.idle(prime)):
                for value in wrong:
                    for call in (first_of, round_length, place_of):
                        self.assertTrue(same(told(self, call, turner, value), ("InvalidSetting", value)))

    def test_wrong_numbers_of_dials(self):
        for prime in PRIMES:
            for turner in (counter(prime), Turner.idle(prime)):
                for value in [*ODD, *FAR, -1, 201, 202, (0,)]:
                    self.assertTrue(same(told(self, round_lengths, turner, value), ("InvalidCount", value)))
                    self.assertTrue(same(told(self, setting_at, turner, value, 0), ("InvalidCount", value)))

    def test_round_of_raises_when_its_first_item_is_asked_for(self):
        for setting in ((2,), (0,) * 15, None, (0,) * 201):
            rounds = round_of(SINGLE, setting)
            self.assertIn(told(self, next, rounds)[0], ("InvalidSetting", "TooMany"))

    def test_not_single(self):
        for prime in PRIMES:
            for turner in tried(prime):
                for dials in range(dials_of(prime, 150) + 1):
                    if not is_single(turner, dials):
                        self.assertEqual(told(self, place_of, turner, (0,) * dials), ("NotSingle",))
                        self.assertEqual(told(self, setting_at, turner, dials, 0), ("NotSingle",))

    def test_single_at_fewer_dials_only(self):
        for prime, most in MOST.items():
            for zeros in range(most):
                turner = late(prime, zeros)
                self.assertEqual(place_of(turner, (0,) * zeros), 0)
                self.assertEqual(setting_at(turner, zeros, prime ** zeros), (0,) * zeros)
                for dials in (zeros + 1, most):
                    self.assertEqual(told(self, place_of, turner, (0,) * dials), ("NotSingle",))
                    self.assertEqual(told(self, setting_at, turner, dials, 0), ("NotSingle",))

    def test_the_order_of_errors(self):
        for prime, most in MOST.items():
            turner = Turner.idle(prime)
            self.assertEqual(told(self, place_of, turner, (0,) * (most + 1)), ("TooMany", 20000))
            self.assertEqual(told(self, setting_at, turner, most + 1, 0), ("TooMany", 20000))
            self.assertEqual(told(self, place_of, turner, (0,) * 201)[0], "InvalidSetting")
            self.assertEqual(told(self, place_of, turner, (0,) * 199 + (prime,))[0], "InvalidSetting")
            self.assertEqual(told(self, setting_at, turner, 201, 0), ("InvalidCount", 201))
            self.assertEqual(told(self, setting_at, turner, most, 0), ("NotSingle",))


class Places(unittest.TestCase):
    def test_by_hand(self):
        self.assertTrue(same([place_of(SINGLE, (0, 1)), setting_at(SINGLE, 2, 3)], [2, (1, 1)]))
        # 5 n + 3 goes 0 3 2 5 4 7 6 1 modulo 8.
        turner = affine(2, 5, 3)
        self.assertEqual([place_of(turner, setting_of(2, number, 3)) for number in (0, 3, 2, 5, 4, 7, 6, 1)],
                         list(range(8)))
        self.assertEqual(setting_at(turner, 3, 11), (1, 0, 1))

    def test_against_doing_it(self):
        for prime in PRIMES:
            for turner in tried(prime):
                for dials in range(dials_of(prime, 150) + 1):
                    if is_single(turner, dials):
                        for place, setting in enumerate(round_from(turner, (0,) * dials)):
                            self.assertTrue(same(place_of(turner, setting), place))
                            self.assertTrue(same(setting_at(turner, dials, place), setting))

    def test_they_undo_each_other(self):
        for prime in PRIMES:
            for turner in (counter(prime), affine(prime, 1 + 2 * prime * prime, -1), row(prime, [1, prime - 1, 1], 1)):
                for dials in range(4):
                    for setting in all_settings(prime, dials):
                        self.assertEqual(setting_at(turner, dials, place_of(turner, setting)), setting)
                    for place in range(prime ** dials):
                        self.assertEqual(place_of(turner, setting_at(turner, dials, place)), place)

    def test_any_place(self):
        for prime in PRIMES:
            for turner in (counter(prime), affine(prime, 1 + prime * prime, 1)):
                for dials in (0, 1, 3, MOST[prime]):
                    for place in [*FAR, -1, -2, prime ** dials, -(prime ** dials) - 1, 10 ** 29 + 7]:
                        found = setting_at(turner, dials, place)
                        self.assertEqual(place_of(turner, found), place % prime ** dials)
                        self.assertEqual(turner(found), setting_at(turner, dials, place + 1))


if __name__ == "__main__":
    unittest.main()
