"""[15] and what lowturns/relabel.py has for every number of dials: Match and match."""

import unittest

from lowturns.counts import first_counts, next_counts, total, turn_total
from lowturns.programs import affine
from lowturns.relabel import Match, match, relabel
from lowturns.rounds import decide
from lowturns.turners import Turner
from tests.samples import FAR, ODD, PRIMES, counter, crossing, late, mixed, row, same, told, trail, tried

SINGLE = Turner.read("2 0: 1 1,0; 0 1,1")
SPLIT = Turner.read("2 0: 1 1,1; 0 1,1")
VALUES = ODD + FAR + [2, 3, -1, [[1, 0]], ([1, 0],), [([1, 0], [1, 0])], (([1, 0], [1, 0]),), {}]


def paired(one, other, many):
    """The first so many pairs of counts."""
    return list(zip(trail(one, many), trail(other, many)))


def rings(first, second):
    """Two turners that match, with first * second + 1 pairs and back 1, if the numbers have no common factor."""
    return row(3, [1] * (first + 1), 1), row(3, [1] * (second + 1), 1)


def right():
    """Arguments of a Match that holds, with pairs ahead of the round."""
    one, other = row(3, [1, 2, 1, 1], 2), row(3, [1, 2, 1, 1, 1], 2)
    found = match(one, other)
    return one, other, found.pairs, found.back


class Matching(unittest.TestCase):
    def test_by_hand(self):
        one, other = Turner.read("2 0: 1 1,0; 0 1,1"), Turner.read("2 0: 1 0,1; 0 1,1")
        found = match(one, other)
        self.assertTrue(same([found.pairs, found.back], [[([1, 0], [1, 0]), ([1, 1], [1, 1])], 1]))
        self.assertEqual((repr(found), len(found), found.holds()), ("Match(2 pairs)", 2, True))
        self.assertIs(found.one, one)
        self.assertIs(found.other, other)
        self.assertEqual(repr(match(row(3, [1, 2, 1], 2), row(3, [1, 2, 1], 2))), "Match(3 pairs)")

    def test_pairs_up_to_the_first_one_that_comes_again(self):
        for prime in PRIMES:
            found = [turner for turner in tried(prime) if decide(turner)]
            found += [row(prime, [1] * many, back) for many, back in ((2, 1), (4, 1), (5, 2), (8, 3), (9, 4))]
            totals = [[turn_total(turner, counts) for counts in trail(turner, 60)] for turner in found]
            kinds = set()
            for one, ones in zip(found, totals):
                for other, others in zip(found, totals):
                    if ones == others:
                        answer = match(one, other)
                        many = len(answer.pairs)
                        kinds.add((many, answer.back))
                        self.assertTrue(same(answer.pairs, paired(one, other, many)))
                        self.assertTrue(same(answer.back, answer.pairs.index(paired(one, other, many + 1)[-1])))
                        self.assertEqual(len({repr(pair) for pair in answer.pairs}), many)
                        self.assertIs(answer.holds(), True)
                        self.assertEqual((len(answer), repr(answer)), (many, f"Match({many} pairs)"))
                        self.assertIs(relabel(one, other, 2).leads(one, other), True)
            self.assertGreater(len(kinds), 3)

    def test_totals_decide(self):
        for prime in PRIMES:
            found = tried(prime)
            totals = [[total(turner, dials) for dials in range(5)]
                      + [turn_total(turner, counts) for counts in trail(turner, 60)[5:]] for turner in found]
            for one, ones in zip(found, totals):
                for other, others in zip(found, totals):
                    pairs = list(zip(ones, others))
                    wrong = [at for at, pair in enumerate(pairs) if 0 in pair or pair[0] != pair[1]]
                    if wrong:
                        expected = ("NotSingle",) if 0 in pairs[wrong[0]] else ("NoRelabelling", wrong[0] + 1)
                        self.assertTrue(same(told(self, match, one, other), expected))
                    else:
                        self.assertIs(match(one, other).holds(), True)

    def test_periods(self):
        for first, second in ((1, 1), (1, 2), (2, 3), (5, 7), (40, 39)):
            one, other = rings(first, second)
            found = match(one, other)
            self.assertEqual((len(found), found.back), (first * second + 1, 1))
            self.assertIs(found.holds(), True)
        # The first one has counts that come again earlier; the pairs do not.
        found = match(row(5, [2, 2, 2], 1), row(5, [2] * 9, 8))
        self.assertEqual((len(found), found.back), (10, 8))

    def test_most(self):
        for first, second in ((1, 1), (2, 3), (5, 7)):
            one, other = rings(first, second)
            many = first * second + 1
            for most in (many, many + 1, 2000, 5000):
                self.assertEqual(match(one, other, most=most).pairs, paired(one, other, many))
            for most in range(1, many):
                self.assertTrue(same(told(self, match, one, other, most=most), ("TooMany", most)))
                self.assertTrue(same(told(self, match, other, one, most=most), ("TooMany", most)))

    def test_the_most_that_is_omitted(self):
        # There are 1, 2 and 3 pairs ahead of the round of 27 * 74 = 1998 ones.
        one, other = rings(27, 74)
        self.assertEqual(len(match(one, other)), 1999)
        ahead = row(3, [1] * 29, 2)
        self.assertEqual(len(match(ahead, other)), 2000)
        ahead = row(3, [1] * 30, 3)
        self.assertEqual(told(self, match, ahead, other), ("TooMany", 2000))
        self.assertEqual(told(self, match, ahead, other, most=2000), ("TooMany", 2000))
        self.assertEqual(len(match(ahead, other, most=2001)), 2001)

    def test_the_greatest_most(self):
        one, other = rings(71, 70)
        self.assertEqual(len(match(one, other, most=5000)), 4971)
        self.assertEqual(told(self, match, *rings(71, 72), most=5000), ("TooMany", 5000))

    def test_which_error_comes_first(self):
        for at in range(4):
            for one, other, error in (
                    (row(3, [1] * at + [0], max(at, 1)) if at else Turner.idle(3), counter(3), ("NotSingle",)),
                    (late(3, at), late(3, at), ("NotSingle",)),
                    (late(3, at), row(3, [1] * at + [2], max(at, 1)) if at else affine(3, 1, 2), ("NotSingle",)),
                    (row(3, [1] * at + [2, 0], at + 1), row(3, [1] * at + [1, 1], at + 1), ("NoRelabelling", at + 1))):
                for first, second in ((one, other), (other, one)):
                    for most in (at + 1, at + 2, 2000):
                        self.assertTrue(same(told(self, match, first, second, most=most), error))
                    for most in range(1, at + 1):
                        self.assertTrue(same(told(self, match, first, second, most=most), ("TooMany", most)))

    def test_no_relabelling_late(self):
        # Two rings, of which the second one has another total at its last place: 11 and 13 meet there at 1 + 12.
        one, other = row(5, [3] * 12, 1), row(5, [3] * 13 + [4], 1)
        self.assertTrue(same(told(self, match, one, other), ("NoRelabelling", 14)))
        self.assertTrue(same(told(self, match, one, other, most=14), ("NoRelabelling", 14)))
        self.assertTrue(same(told(self, match, one, other, most=13), ("TooMany", 13)))

    def test_wrong_numbers(self):
        for most in [*ODD, *FAR, 0, -1, 5001, 5002]:
            for one, other in ((SINGLE, SINGLE), (SPLIT, SINGLE), (Turner.idle(2), Turner.idle(2))):
                self.assertTrue(same(told(self, match, one, other, most=most), ("InvalidCount", most)))

    def test_primes_differ(self):
        for most in (1, 2000, 0, 5001, None):
            for one, other in ((SINGLE, counter(3)), (counter(3), SPLIT), (Turner.idle(7), Turner.idle(5))):
                self.assertEqual(told(self, match, one, other, most=most), ("PrimesDiffer",))

    def test_most_is_keyword_only(self):
        self.assertRaises(TypeError, match, SINGLE, SINGLE, 2000)

    def test_many_states(self):
        states = mixed(2, 240, 4)
        one = Turner(2, [(1, (1, 0))] + states[1:])
        self.assertIn(told(self, match, one, SINGLE, most=3)[0], ("TooMany", "NotSingle", "NoRelabelling"))
        one, other = crossing(2, 20, 44, 45), crossing(2, 20, 44, 45).started(0)
        self.assertEqual((len(match(one, other)), match(one, other).back), (2000, 20))


class Matches(unittest.TestCase):
    def test_attributes(self):
        one, other, pairs, back = right()
        self.assertEqual((len(pairs), back), (8, 2))
        for given, index, many in ((pairs, back, 8), ([], 0, 0), ([1, None], "x", 2), ((1, 2, 3), [1], 3), (None, 1, 0),
                                   ("abc", None, 0), (5, True, 0)):
            found = Match(one, other, given, index)
            self.assertIs(found.one, one)
            self.assertIs(found.other, other)
            self.assertTrue(same(found.back, index))
            self.assertTrue(same(found.pairs, given) or isinstance(given, tuple))
            self.assertTrue(same([len(found), repr(found)], [many, f"Match({many} pairs)"]))
        for name in ("one", "other", "pairs", "back"):
            self.assertIsInstance(vars(Match)[name], property)
            self.assertRaises(AttributeError, setattr, match(SINGLE, SINGLE), name, 1)

    def test_right_ones(self):
        one, other, pairs, back = right()
        self.assertIs(Match(one, other, pairs, back).holds(), True)
        self.assertIs(Match(other, one, [pair[::-1] for pair in pairs], back).holds(), True)
        for given in (tuple(pairs), [(tuple(first), second) for first, second in pairs],
                      [(first, tuple(second)) for first, second in pairs],
                      tuple((tuple(first), tuple(second)) for first, second in pairs)):
            self.assertIs(Match(one, other, given, back).holds(), True)
        # More than one round, or back to a place that is not the first one: all is as it must be.
        more = paired(one, other, len(pairs) + 6)
        self.assertIs(Match(one, other, more, back).holds(), True)
        self.assertIs(Match(one, other, more, back + 6).holds(), True)
        self.assertIs(Match(one, other, paired(one, other, len(pairs) + 1), back + 1).holds(), True)

    def test_each_count_bent(self):
        one, other, pairs, back = right()
        for at, pair in enumerate(pairs):
            for side in (0, 1):
                for state, count in enumerate(pair[side]):
                    for value in [(count + 1) % 3, (count + 2) % 3, count + 3, count - 3, *VALUES]:
                        bent = [[list(first), list(second)] for first, second in pairs]
                        bent[at][side][state] = value
                        found = Match(one, other, [tuple(item) for item in bent], back)
                        self.assertIs(found.holds(), same(value, count))

    def test_other_counts(self):
        one, other, pairs, back = right()
        for at, pair in enumerate(pairs):
            for value in [*VALUES, pair[0][1:], pair[0] + [0], [pair[0]], pairs[at - 1][0]]:
                bent = pairs[:at] + [(value, pair[1])] + pairs[at + 1:]
                self.assertIs(Match(one, other, bent, back).holds(), False)
            for value in [*VALUES, pair[1][1:], pair[1] + [0], [pair[1]], pairs[at - 1][1]]:
                bent = pairs[:at] + [(pair[0], value)] + pairs[at + 1:]
                self.assertIs(Match(one, other, bent, back).holds(), False)

    def test_other_values_for_a_pair(self):
        one, other, pairs, back = right()
        for at, pair in enumerate(pairs):
            for value in [*VALUES, list(pair), pair[:1], (*pair, pair[0]), pair[::-1], [pair], (pair,), pairs[at - 1]]:
                bent = pairs[:at] + [value] + pairs[at + 1:]
                self.assertIs(Match(one, other, bent, back).holds(), False)
            self.assertIs(Match(one, other, pairs[:at] + pairs[at + 1:], back).holds(), False)
            self.assertIs(Match(one, other, pairs[:at], back).holds(), False)
            self.assertIs(Match(one, other, pairs[:at], 0).holds(), False)

    def test_other_values_for_pairs(self):
        one, other, _, back = right()
        for value in VALUES:
            found = Match(one, other, value, back)
            self.assertIs(found.holds(), False)
            self.assertTrue(same(found.pairs, value) or isinstance(value, tuple))
            self.assertEqual(len(found), len(value) if isinstance(value, (list, tuple)) else 0)

    def test_other_values_for_back(self):
        one, other, pairs, back = right()
        for value in [*range(-10, 11), *VALUES]:
            found = Match(one, other, pairs, value)
            self.assertIs(found.holds(), same(value, back))
            self.assertTrue(same(found.back, value))
        pairs = match(SINGLE, SINGLE).pairs
        for value in (True, -1, [1], "1", 1.0, (1,), None):
            self.assertIs(Match(SINGLE, SINGLE, pairs, value).holds(), False)
        self.assertIs(Match(SINGLE, SINGLE, pairs, 1).holds(), True)

    def test_totals(self):
        # All goes on as it must and comes again, but a total is 0, or two of them differ.
        for ones, others in (([1, 2, 1], [1, 2, 2]), ([1, 0, 1], [1, 0, 1]), ([1, 0, 1], [1, 1, 1]),
                             ([1, 2, 1], [2, 2, 1]), ([0, 1, 1], [0, 1, 1])):
            one, other = row(3, ones, 1), row(3, others, 1)
            self.assertIs(Match(one, other, paired(one, other, 3), 1).holds(), False)
            self.assertIs(Match(other, one, paired(other, one, 3), 1).holds(), False)
        one, other = row(3, [1, 2, 1], 1), row(3, [1, 2, 1], 1)
        self.assertIs(Match(one, other, paired(one, other, 3), 1).holds(), True)

    def test_of_other_turners(self):
        one, other, pairs, back = right()
        for first, second in ((one, one), (other, other), (other, one), (one, SINGLE), (SINGLE, other),
                              (one.started(1), other), (one, other.inverse())):
            self.assertIs(Match(first, second, pairs, back).holds(), False)

    def test_different_primes(self):
        # The totals are 1 on both sides, and each side alone is right.
        one, other = row(2, [1, 1], 1), row(3, [1, 1], 1)
        pairs = [(first_counts(one), first_counts(other))]
        pairs.append((next_counts(one, pairs[0][0]), next_counts(other, pairs[0][1])))
        self.assertEqual([turn_total(one, pair[0]) for pair in pairs], [turn_total(other, pair[1]) for pair in pairs])
        for first, second in ((one, other), (other, one)):
            for given in (pairs, [pair[::-1] for pair in pairs], [], None):
                self.assertIs(Match(first, second, given, 1).holds(), False)
        self.assertIs(Match(one, one, [(pair[0], pair[0]) for pair in pairs], 1).holds(), True)
        self.assertIs(Match(other, other, [(pair[1], pair[1]) for pair in pairs], 1).holds(), True)

    def test_lists_are_copied(self):
        one, other, pairs, back = right()
        found = Match(one, other, pairs, back)
        pairs[0][0][0] = 2
        pairs[1][1].append(0)
        pairs.pop()
        told_ones = found.pairs
        told_ones[0][0].clear()
        told_ones[3][1][0] = 2
        told_ones.append(1)
        self.assertEqual(found.pairs, right()[2])
        self.assertIs(found.holds(), True)
        given, index = [[1, ([2, [3]],)]], [0, [1]]
        found = Match(one, other, given, index)
        given[0][1][0][1].append(4)
        index[1].append(2)
        found.pairs[0][1][0].clear()
        found.back[1].clear()
        self.assertEqual((found.pairs, found.back), ([[1, ([2, [3]],)]], [0, [1]]))

    def test_what_is_passed_stays(self):
        one, other, pairs, back = right()
        Match(one, other, pairs, back).holds()
        self.assertTrue(same(pairs, right()[2]))


if __name__ == "__main__":
    unittest.main()
