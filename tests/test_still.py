"""[13] and the interface of lowturns/still.py, against trying all settings of few dials."""

import unittest

from lowturns.programs import affine, compiled
from lowturns.still import agree_count, first_still, still_count, still_depth
from lowturns.turners import Turner
from tests.samples import FAR, ODD, PRIMES, all_settings, counter, dials_of, mixed, ring, same, told, turners

WRONG = [*ODD, *FAR, -1, 201, 202, (0,)]


def quiet(prime, many, at):
    """A turner of which a setting stays for exactly so many dials: along the figure at, the last state turns."""
    targets = [tuple(place + 1 if figure == at else many for figure in range(prime)) for place in range(many)]
    return Turner(prime, [(0, item) for item in targets] + [(1, (many,) * prime)])


def tried(prime):
    """Turners for which some settings stay and some do not."""
    found = turners(prime) + [compiled(prime, text) for text in ("", "stir 1 2", "stir 1 1; mix 1", "times 8; add 2")
                              if prime == 7 or "times" not in text]
    # Half of the states have the turn 0.
    for many in (2, 4, 7):
        for seed in range(4):
            states = [(turn if at % 2 else 0, targets) for at, (turn, targets) in enumerate(mixed(prime, many, seed))]
            found.append(Turner(prime, states, start=seed % many))
    return found


def staying(turner, dials):
    """The settings that stay, in ascending order."""
    return sorted(setting for setting in all_settings(turner.prime, dials) if turner(setting) == setting)


def no_two(prime):
    """It turns as soon as two dials one after the other show a figure that is not 0."""
    return Turner(prime, [(0, (0,) + (1,) * (prime - 1)), (0, (0,) + (2,) * (prime - 1)), (1, (2,) * prime)])


class Counts(unittest.TestCase):
    def test_by_hand(self):
        # The second dial is turned where the first one shows 1.
        turner = Turner(2, [(0, (1, 2)), (0, (1, 1)), (1, (1, 1))])
        self.assertTrue(same([still_count(turner, dials) for dials in range(4)], [1, 2, 2, 4]))
        self.assertEqual(agree_count(turner, Turner.read("2 0: 1 0,0"), 1), 0)
        self.assertEqual(agree_count(turner, turner, 5), 32)

    def test_against_all_settings(self):
        for prime in PRIMES:
            kinds = set()
            for turner in tried(prime):
                for dials in range(dials_of(prime, 250) + 1):
                    expected = len(staying(turner, dials))
                    self.assertTrue(same(still_count(turner, dials), expected))
                    kinds.add(expected)
            self.assertGreater(len(kinds), 5)

    def test_stays_exactly_if_all_states_of_the_path_have_the_turn_0(self):
        for prime in PRIMES:
            for turner in tried(prime):
                for setting in all_settings(prime, dials_of(prime, 60)):
                    quiet_path = all(turner.turn(state) == 0 for state in turner.path(setting))
                    self.assertEqual(turner(setting) == setting, quiet_path)

    def test_agreeing_against_all_settings(self):
        for prime in PRIMES:
            found = tried(prime)
            kinds = set()
            for at, one in enumerate(found):
                for other in (found[(at * 7 + 3) % len(found)], found[(at * 5 + 1) % len(found)], one.inverse()):
                    for dials in range(dials_of(prime, 60) + 1):
                        settings = all_settings(prime, dials)
                        expected = sum(one(setting) == other(setting) for setting in settings)
                        self.assertTrue(same(agree_count(one, other, dials), expected))
                        self.assertEqual(agree_count(other, one, dials), expected)
                        kinds.add(expected)
            self.assertGreater(len(kinds), 5)

    def test_great_numbers(self):
        for prime in PRIMES:
            for dials in (199, 200):
                self.assertTrue(same(still_count(Turner.idle(prime), dials), prime ** dials))
                self.assertEqual(agree_count(counter(prime), counter(prime), dials), prime ** dials)
                self.assertEqual(still_count(counter(prime), dials), 0)
                # Without two figures other than 0 side by side among the lowest dials; the last dial is free.
                one, other = 1, 1
                for _ in range(dials - 1):
                    one, other = one + (prime - 1) * other, one
                self.assertEqual(still_count(no_two(prime), dials), prime * one)
                # Both add at the lowest dial; only a setting of p - 1 on all dials below is told apart.
                other = affine(prime, 1, 1 + prime)
                self.assertEqual(agree_count(counter(prime), other, dials), 0)
                bent = Turner(prime, [(1, (1,) * prime), (0, (1,) * prime)])
                self.assertEqual(agree_count(counter(prime), bent, dials), prime ** (dials - 1) * (prime - 1))

    def test_agreeing_and_staying(self):
        for prime in PRIMES:
            found = tried(prime)
            for at, one in enumerate(found):
                other = found[(at * 3 + 1) % len(found)]
                for dials in (0, 1, 7, 30, 200):
                    self.assertEqual(agree_count(one, other, dials), still_count(one * other.inverse(), dials))
                    self.assertEqual(agree_count(one, Turner.idle(prime), dials), still_count(one, dials))

    def test_once_none_stays_none_stays_for_more(self):
        for prime in PRIMES:
            for turner in tried(prime):
                stays = [still_count(turner, dials) > 0 for dials in range(40)]
                self.assertEqual(stays, sorted(stays, reverse=True))

    def test_many_states(self):
        for prime in PRIMES:
            one, other = Turner(prime, ring(prime, 239)), Turner(prime, ring(prime, 240))
            self.assertEqual(agree_count(one, other, 200), prime ** 200)
            self.assertEqual(still_count(one, 200), prime ** 200)

    def test_wrong_numbers_of_dials(self):
        for prime in PRIMES:
            for turner in (counter(prime), Turner.idle(prime)):
                for value in WRONG:
                    self.assertTrue(same(told(self, still_count, turner, value), ("InvalidCount", value)))
                    self.assertTrue(same(told(self, agree_count, turner, turner, value), ("InvalidCount", value)))
                    self.assertTrue(same(told(self, first_still, turner, value), ("InvalidCount", value)))

    def test_primes_differ(self):
        for one in PRIMES:
            for other in PRIMES:
                if one != other:
                    for dials in (0, 3, 200, *WRONG):
                        found = told(self, agree_count, counter(one), Turner.idle(other), dials)
                        self.assertEqual(found, ("PrimesDiffer",))


class Depths(unittest.TestCase):
    def test_by_hand(self):
        self.assertTrue(same(still_depth(counter(2)), 0))
        self.assertIsNone(still_depth(Turner.idle(5)))
        self.assertTrue(same(still_depth(Turner(3, [(0, (1, 1, 1)), (2, (0, 0, 0))])), 1))

    def test_against_all_settings(self):
        for prime in PRIMES:
            kinds = set()
            most = dials_of(prime, 250)
            for turner in tried(prime) + [quiet(prime, many, prime - 1) for many in range(most + 1)]:
                stays = [bool(staying(turner, dials)) for dials in range(most + 1)]
                depth = still_depth(turner)
                self.assertEqual(stays, [depth is None or dials <= depth for dials in range(most + 1)])
                kinds.add(depth)
            self.assertTrue({None, 0, 1, 2} <= kinds)

    def test_long_ways(self):
        for prime in PRIMES:
            for at in (0, prime - 1):
                for many in (1, 2, 199, 200, 201, 202, 238, 239):
                    turner = quiet(prime, many, at)
                    self.assertTrue(same(still_depth(turner), many))
                    self.assertEqual(still_count(turner, min(many, 200)), prime)
                    setting = (at,) * (min(many, 200) - 1)
                    self.assertEqual(first_still(turner, min(many, 200)), setting + (0,))
                    if many < 200:
                        self.assertIsNone(first_still(turner, many + 1))
                        self.assertEqual(still_count(turner, many + 1), 0)

    def test_rings_have_no_end(self):
        for prime in PRIMES:
            for many in (1, 2, 240):
                for back in (0, many // 2, many - 1):
                    self.assertIsNone(still_depth(Turner(prime, ring(prime, many, back))))
            # The only way on comes back to itself at one figure, and all others turn.
            states = [(0, (240 - 1,) * (prime - 1) + ((at + 1) % 239,)) for at in range(239)]
            turner = Turner(prime, states + [(1, (239,) * prime)])
            self.assertIsNone(still_depth(turner))
            # All ways have an end, also where a state is reached on ways of different lengths.
            states = [(0, (min(at + 1, 9),) * (prime - 1) + (min(at + 2, 9),)) for at in range(9)]
            self.assertEqual(still_depth(Turner(prime, states + [(1, (0,) * prime)])), 9)

    def test_states_that_are_not_reached(self):
        for prime in PRIMES:
            # The ring of the turn 0 is reached only behind a state that turns.
            lost = Turner(prime, [(0, (1,) * prime), (1, (2,) * prime), (0, (2,) * prime), (0, (3,) * prime)])
            self.assertEqual(still_depth(lost), 1)
            self.assertEqual([still_count(lost, dials) for dials in (0, 1, 2, 200)], [1, prime, 0, 0])
            self.assertEqual([first_still(lost, dials) for dials in (0, 1, 2)], [(), (0,), None])
            self.assertIsNone(still_depth(lost.started(2)))
            # A state that turns, and is not reached.
            found = Turner(prime, [(1, (0,) * prime), (0, (1,) * prime)], start=1)
            self.assertIsNone(still_depth(found))
            self.assertEqual(still_count(found, 200), prime ** 200)
            self.assertEqual(agree_count(found, lost, 2), 0)
            self.assertEqual(agree_count(found, lost.started(3), 9), prime ** 9)


class Firsts(unittest.TestCase):
    def test_against_all_settings(self):
        for prime in PRIMES:
            kinds = set()
            for turner in tried(prime):
                for dials in range(dials_of(prime, 250) + 1):
                    found = staying(turner, dials)
                    expected = found[0] if found else None
                    self.assertTrue(same(first_still(turner, dials), expected))
                    kinds.add(expected)
            self.assertGreater(len(kinds), 5)

    def test_the_least_is_not_the_one_with_the_least_number(self):
        # (0, 1) and (1, 0) stay; as a number the second one is less, as a tuple the first one.
        turner = Turner(2, [(0, (1, 2)), (0, (4, 3)), (0, (3, 4)), (0, (3, 3)), (1, (4, 4))])
        self.assertEqual(staying(turner, 3), [(0, 1, 0), (0, 1, 1), (1, 0, 0), (1, 0, 1)])
        self.assertEqual(first_still(turner, 3), (0, 1, 0))

    def test_no_dials_and_many(self):
        for prime in PRIMES:
            for turner in tried(prime):
                self.assertTrue(same(first_still(turner, 0), ()))
            self.assertTrue(same(first_still(Turner.idle(prime), 200), (0,) * 200))
            self.assertIsNone(first_still(counter(prime), 200))
            self.assertEqual(first_still(no_two(prime), 200), (0,) * 200)

    def test_it_stays_for_many_dials(self):
        for prime in PRIMES:
            for turner in tried(prime):
                for dials in (17, 200):
                    found = first_still(turner, dials)
                    self.assertEqual(found is None, still_count(turner, dials) == 0)
                    if found is not None:
                        self.assertEqual((len(found), turner(found)), (dials, found))


if __name__ == "__main__":
    unittest.main()
