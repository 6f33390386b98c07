"""[10], [12] and the interface of lowturns/rounds.py."""

import inspect
import unittest

from lowturns import rounds
from lowturns.counts import first_counts, next_counts, total, turn_total
from lowturns.parting import least
from lowturns.programs import affine
from lowturns.rounds import Answer, Single, Split, decide
from lowturns.turners import Turner
from tests.samples import FAR, ODD, PRIMES, crossing, dials_of, late, lengths, mixed, ring, round_from, same, told, trail
from tests.samples import tried

SINGLE = Turner(2, [(1, (1, 0)), (0, (1, 1))])
SPLIT = Turner(2, [(1, (1, 1)), (0, (1, 1))])
VALUES = ODD + FAR + [2, 3, -1, [[1, 0]], ([1, 0],), [(1, 0)], ((1, 0),), [[1, 0], [0, 0]], {}]


class Deciding(unittest.TestCase):
    def test_examples(self):
        found = [decide(Turner.read(text)).told() for text in ("2 0: 1 1,0; 0 1,1", "2 0: 1 1,1; 0 1,1")]
        self.assertEqual(found, ["single", "split at 2 dials"])

    def test_by_hand(self):
        answer = decide(SINGLE)
        self.assertTrue(same([answer.counts, answer.back], [[[1, 0], [1, 1]], 1]))
        answer = decide(SPLIT)
        self.assertTrue(same(answer.counts, [[1, 0], [0, 0]]))
        answer = decide(Turner.idle(5))
        self.assertTrue(same([answer.counts, answer.told()], [[[1]], "split at 1 dials"]))
        answer = decide(Turner(5, [(1, (0,) * 5)]))
        self.assertTrue(same([answer.counts, answer.told()], [[[1], [0]], "split at 2 dials"]))
        # The counts are 1 0, 2 1, 1 2 (0 and 3 more are nothing), 2 1.
        answer = decide(Turner(3, [(1, (0, 0, 1)), (0, (1, 1, 1))]))
        self.assertTrue(same([answer.counts, answer.back], [[[1, 0], [2, 1], [1, 2]], 1]))
        self.assertEqual(answer.told(), "single")

    def test_against_the_rounds_of_all_settings(self):
        for prime in PRIMES:
            kinds = set()
            for turner in tried(prime):
                answer = decide(turner)
                kinds.add(answer.told())
                for dials in range(dials_of(prime, 400) + 1):
                    single = len(lengths(turner, dials)) == 1
                    self.assertEqual(single, answer.is_single or dials < answer.dials)
            self.assertGreater(len(kinds), 3)

    def test_counts_and_back(self):
        for prime in PRIMES:
            for turner in tried(prime):
                answer = decide(turner)
                many = len(answer.counts)
                self.assertTrue(same(answer.counts, trail(turner, many)))
                self.assertEqual(len({tuple(item) for item in answer.counts}), many)
                totals = [turn_total(turner, item) for item in answer.counts]
                if answer.is_single:
                    self.assertNotIn(0, totals)
                    self.assertIs(type(answer), Single)
                    self.assertTrue(same(trail(turner, many + 1)[-1], answer.counts[answer.back]))
                    self.assertTrue(same(type(answer.back), int))
                else:
                    self.assertEqual((0 in totals[:-1], totals[-1]), (False, 0))
                    self.assertIs(type(answer), Split)
                self.assertIs(answer.holds(), True)

    def test_the_back_behind_a_way(self):
        for prime in PRIMES:
            for ahead, one, other in ((1, 1, 1), (1, 1, 2), (2, 3, 1), (5, 3, 4), (40, 2, 9)):
                answer = decide(crossing(prime, ahead, one, other))
                self.assertEqual((answer.told(), answer.back), ("single", ahead))
                self.assertEqual(len(answer.counts), ahead + one * other)
                self.assertIs(answer.holds(), True)

    def test_split_late(self):
        for prime in PRIMES:
            for zeros in (1, 2, 17, 200):
                answer = decide(late(prime, zeros))
                self.assertEqual(answer.told(), f"split at {zeros + 1} dials")
                self.assertTrue(same(answer.dials, zeros + 1))
                self.assertTrue(answer.holds())

    def test_most_of_a_split(self):
        for prime in PRIMES:
            for zeros in (1, 5, 30):
                turner = late(prime, zeros)
                for most in (zeros + 1, zeros + 2, 2000, 5000):
                    self.assertEqual(decide(turner, most=most).dials, zeros + 1)
                for most in {1, zeros - 1, zeros} - {0}:
                    self.assertTrue(same(told(self, decide, turner, most=most), ("TooMany", most)))

    def test_most_of_a_single_one(self):
        for turner in (SINGLE, crossing(2, 3, 4, 5), crossing(3, 9, 1, 1), affine(5, 6, 1), crossing(7, 1, 5, 3)):
            answer = decide(turner)
            many = len(answer.counts)
            self.assertTrue(answer.is_single)
            for most in (many, many + 1, 5000):
                self.assertEqual(decide(turner, most=most).counts, answer.counts)
                self.assertEqual(decide(turner, most=most).back, answer.back)
            for most in range(1, many):
                self.assertTrue(same(told(self, decide, turner, most=most), ("TooMany", most)))

    def test_most_of_one(self):
        self.assertEqual(decide(Turner.idle(3), most=1).told(), "split at 1 dials")
        self.assertEqual(told(self, decide, SINGLE, most=1), ("TooMany", 1))
        self.assertEqual(told(self, decide, SPLIT, most=1), ("TooMany", 1))
        self.assertEqual(decide(SPLIT, most=2).dials, 2)
        self.assertEqual(decide(SINGLE, most=2).told(), "single")

    def test_the_most_that_is_omitted(self):
        answer = decide(crossing(2, 20, 44, 45))
        self.assertEqual((answer.told(), len(answer.counts), answer.back), ("single", 2000, 20))
        turner = crossing(2, 21, 44, 45)
        self.assertEqual(told(self, decide, turner), ("TooMany", 2000))
        self.assertEqual(told(self, decide, turner, most=2000), ("TooMany", 2000))
        self.assertEqual(len(decide(turner, most=2001).counts), 2001)
        # Both rings meet at the places 1979 for the first time.
        places = (1979 % 44, 1979 % 45)
        self.assertEqual(decide(crossing(3, 20, 44, 45, meets=places)).told(), "split at 2000 dials")
        turner = crossing(3, 21, 44, 45, meets=places)
        self.assertEqual(told(self, decide, turner), ("TooMany", 2000))
        self.assertEqual(decide(turner, most=2001).dials, 2001)

    def test_the_greatest_most(self):
        self.assertEqual(len(decide(crossing(2, 30, 70, 71), most=5000).counts), 5000)
        self.assertEqual(told(self, decide, crossing(2, 31, 70, 71), most=5000), ("TooMany", 5000))

    def test_invalid_counts(self):
        for most in [*ODD, *FAR, 0, -1, 5001, 5002]:
            self.assertTrue(same(told(self, decide, SINGLE, most=most), ("InvalidCount", most)))
            self.assertTrue(same(told(self, decide, Turner.idle(2), most=most), ("InvalidCount", most)))

    def test_most_is_keyword_only(self):
        self.assertRaises(TypeError, decide, SINGLE, 2000)

    def test_the_turner_stays(self):
        turner = Turner(2, [(1, (1, 0)), (0, (1, 1))])
        decide(turner)
        self.assertEqual(turner, SINGLE)


def right_single():
    """Arguments of a Single that holds, with counts on the way ahead of the round."""
    turner = crossing(3, 3, 2, 3)
    answer = decide(turner)
    return turner, answer.counts, answer.back


def right_split():
    """Arguments of a Split that holds."""
    turner = crossing(3, 2, 2, 3, meets=(1, 2))
    return turner, decide(turner).counts


class Base(unittest.TestCase):
    def test_what_it_tells(self):
        for turner in (SINGLE, SPLIT, Turner.idle(7)):
            answer = Answer(turner)
            self.assertIs(answer.subject, turner)
            self.assertTrue(same([answer.is_single, answer.told(), answer.holds()], [False, "open", False]))
            self.assertIs(bool(answer), False)
            self.assertEqual(repr(answer), "Answer(open)")

    def test_classes(self):
        for kind in (Single, Split):
            self.assertTrue(issubclass(kind, Answer))
        self.assertFalse(issubclass(Single, Split) or issubclass(Split, Single))
        for kind, names in ((Answer, ["subject", "is_single"]), (Single, ["counts", "back", "is_single"]),
                            (Split, ["counts", "dials"])):
            for name in names:
                self.assertIsInstance(vars(kind)[name], property)
                self.assertRaises(AttributeError, setattr, decide(SINGLE if kind is Single else SPLIT), name, 1)
        for kind, names in ((Answer, ["told", "holds", "__bool__", "__repr__"]), (Single, ["told", "holds"]),
                            (Split, ["told", "holds", "pair"])):
            for name in names:
                self.assertIn(name, vars(kind))

    def test_parameters(self):
        for kind, names in ((Answer, ["turner"]), (Single, ["turner", "counts", "back"]),
                            (Split, ["turner", "counts"])):
            self.assertEqual(list(inspect.signature(kind).parameters), names)
            self.assertEqual(kind.__module__, "lowturns.rounds")
        self.assertEqual(list(inspect.signature(decide).parameters), ["turner", "most"])
        self.assertEqual(decide.__module__, "lowturns.rounds")
        self.assertIs(rounds.decide, decide)
        self.assertTrue(Single(back=1, counts=[[1, 0], [1, 1]], turner=SINGLE).holds())
        self.assertTrue(Split(counts=[[1, 0], [0, 0]], turner=SPLIT).holds())
        self.assertEqual(Answer(turner=SPLIT).subject, SPLIT)
        self.assertTrue(decide(most=5, turner=SINGLE))


class Singles(unittest.TestCase):
    def test_what_it_tells(self):
        turner, counts, back = right_single()
        for given, index in ((counts, back), ([], 0), (None, None), ([[5]], 7)):
            answer = Single(turner, given, index)
            self.assertIs(answer.subject, turner)
            self.assertTrue(same([answer.is_single, answer.told(), answer.counts, answer.back],
                                 [True, "single", given, index]))
            self.assertIs(bool(answer), True)
            self.assertEqual(repr(answer), "Answer(single)")

    def test_right_ones(self):
        turner, counts, back = right_single()
        self.assertIs(Single(turner, counts, back).holds(), True)
        self.assertIs(Single(SINGLE, [[1, 0], [1, 1]], 1).holds(), True)
        # More than one round, or back to a place that is not the first one: all is as it must be.
        more = trail(turner, back + 2 * (len(counts) - back))
        self.assertIs(Single(turner, more, back).holds(), True)
        self.assertIs(Single(turner, more, len(counts)).holds(), True)
        longer = trail(turner, len(counts) + 2)
        self.assertIs(Single(turner, longer, back + 2).holds(), True)

    def test_tuples_may_be_passed(self):
        turner, counts, back = right_single()
        for given in (tuple(counts), [tuple(item) for item in counts], tuple(tuple(item) for item in counts),
                      [tuple(item) if at % 2 else item for at, item in enumerate(counts)]):
            answer = Single(turner, given, back)
            self.assertIs(answer.holds(), True)
            self.assertEqual([list(item) for item in answer.counts], counts)

    def test_counts_bent_at_each_place(self):
        turner, counts, back = right_single()
        for at in range(len(counts)):
            for state in range(len(turner)):
                right = counts[at][state]
                for value in [(right + 1) % 3, (right + 2) % 3, right + 3, right - 3, *VALUES]:
                    bent = [list(item) for item in counts]
                    bent[at][state] = value
                    self.assertIs(Single(turner, bent, back).holds(), same(value, right))

    def test_items_of_other_kinds(self):
        turner, counts, back = right_single()
        for at in range(len(counts)):
            ahead = counts[at - 1]
            for value in [*VALUES, counts[at][1:], counts[at] + [0], [counts[at]], ahead, tuple(ahead)]:
                bent = counts[:at] + [value] + counts[at + 1:]
                self.assertIs(Single(turner, bent, back).holds(), False)
            self.assertIs(Single(turner, counts[:at] + counts[at + 1:], back).holds(), False)
            self.assertIs(Single(turner, counts[:at], back).holds(), False)
            self.assertIs(Single(turner, counts[:at], 0).holds(), False)

    def test_counts_of_other_kinds(self):
        turner, _, back = right_single()
        for value in VALUES:
            answer = Single(turner, value, back)
            self.assertIs(answer.holds(), False)
            self.assertTrue(same(answer.counts, value) or isinstance(value, tuple))
            self.assertIs(Single(Turner.idle(2), value, 0).holds(), False)
        # True is not 1.
        self.assertIs(Single(SINGLE, [[True, 0], [1, 1]], 1).holds(), False)
        self.assertIs(Single(SINGLE, [[1, False], [1, 1]], 1).holds(), False)
        self.assertIs(Single(SINGLE, [[1, 0], [1, True]], 1).holds(), False)

    def test_other_values_for_back(self):
        turner, counts, back = right_single()
        many = len(counts)
        wrong = [at for at in range(-many - 2, many + 3) if at != back]
        for value in wrong + [one for one in VALUES if type(one) is not int]:
            answer = Single(turner, counts, value)
            self.assertIs(answer.holds(), False)
            self.assertTrue(same(answer.back, value))
        # These would be right if they were numbers, or if indexes were counted from the end.
        self.assertIs(Single(SINGLE, [[1, 0], [1, 1]], True).holds(), False)
        self.assertIs(Single(SINGLE, [[1, 0], [1, 1]], -1).holds(), False)
        self.assertIs(Single(SINGLE, [[1, 0], [1, 1]], [1]).holds(), False)
        self.assertIs(Single(SINGLE, [[1, 0], [1, 1]], "1").holds(), False)
        for value in FAR:
            self.assertIs(Single(SINGLE, [[1, 0], [1, 1]], value).holds(), False)

    def test_a_total_0(self):
        # The counts come again, but a total is 0 at the beginning, on the way or at the end.
        self.assertIs(Single(Turner.idle(5), [[1]], 0).holds(), False)
        self.assertIs(Single(SPLIT, [[1, 0], [0, 0]], 1).holds(), False)
        for meets in ((0, 0), (1, 0), (0, 1), (1, 2)):
            turner = crossing(3, 3, 2, 3, meets=meets)
            self.assertIs(Single(turner, trail(turner, 9), 3).holds(), False)

    def test_of_another_turner(self):
        turner, counts, back = right_single()
        for other in (turner.inverse(), turner.started(1), crossing(3, 3, 3, 2), SINGLE, Turner.idle(3)):
            self.assertIs(Single(other, counts, back).holds(), other == turner.inverse())

    def test_lists_are_copied(self):
        turner, counts, back = right_single()
        answer = Single(turner, counts, back)
        counts[0][0] = 2
        counts.append([0])
        self.assertIs(answer.holds(), True)
        told_ones = answer.counts
        told_ones[0].clear()
        told_ones.pop()
        self.assertEqual(answer.counts, right_single()[1])
        self.assertIs(answer.holds(), True)
        given, index = [[1, [2, [3]]]], [0, [1]]
        answer = Single(turner, given, index)
        given[0][1][1].append(4)
        index[1].append(2)
        answer.counts[0][1].clear()
        answer.back[1].clear()
        self.assertEqual((answer.counts, answer.back), ([[1, [2, [3]]]], [0, [1]]))

    def test_what_is_passed_stays(self):
        turner, counts, back = right_single()
        Single(turner, counts, back).holds()
        self.assertEqual(counts, right_single()[1])


class Splits(unittest.TestCase):
    def test_what_it_tells(self):
        turner, counts = right_split()
        self.assertEqual(len(counts), 8)
        for given, many in ((counts, 8), ([], 0), ([[1]], 1), ([5, None, "x"], 3), ((1, 2), 2)):
            answer = Split(turner, given)
            self.assertIs(answer.subject, turner)
            self.assertTrue(same([answer.is_single, answer.told(), answer.dials],
                                 [False, f"split at {many} dials", many]))
            self.assertIs(bool(answer), False)
            self.assertEqual(repr(answer), f"Answer(split at {many} dials)")

    def test_values_of_another_kind(self):
        for value in [one for one in VALUES if not isinstance(one, (list, tuple))]:
            answer = Split(SPLIT, value)
            self.assertTrue(same([answer.counts, answer.dials, answer.told()], [value, 0, "split at 0 dials"]))
            self.assertEqual((answer.holds(), answer.pair()), (False, ((), ())))

    def test_right_ones(self):
        turner, counts = right_split()
        self.assertIs(Split(turner, counts).holds(), True)
        self.assertIs(Split(SPLIT, [[1, 0], [0, 0]]).holds(), True)
        self.assertIs(Split(Turner.idle(7), [[1]]).holds(), True)

    def test_tuples_may_be_passed(self):
        turner, counts = right_split()
        for given in (tuple(counts), [tuple(item) for item in counts], tuple(tuple(item) for item in counts)):
            answer = Split(turner, given)
            self.assertIs(answer.holds(), True)
            self.assertEqual([list(item) for item in answer.counts], counts)
            self.assertEqual(answer.dials, len(counts))

    def test_counts_bent_at_each_place(self):
        turner, counts = right_split()
        for at in range(len(counts)):
            for state in range(len(turner)):
                right = counts[at][state]
                for value in [(right + 1) % 3, (right + 2) % 3, right + 3, right - 3, *VALUES]:
                    bent = [list(item) for item in counts]
                    bent[at][state] = value
                    self.assertIs(Split(turner, bent).holds(), same(value, right))

    def test_items_of_other_kinds(self):
        turner, counts = right_split()
        for at in range(len(counts)):
            for value in [*VALUES, counts[at][1:], counts[at] + [0], [counts[at]], counts[at - 1]]:
                bent = counts[:at] + [value] + counts[at + 1:]
                self.assertIs(Split(turner, bent).holds(), False)
            self.assertIs(Split(turner, counts[:at] + counts[at + 1:]).holds(), False)
            self.assertIs(Split(turner, counts[:at]).holds(), False)

    def test_counts_of_other_kinds(self):
        for value in VALUES:
            self.assertIs(Split(SPLIT, value).holds(), value == [[1, 0], [0, 0]])
            self.assertIs(Split(Turner.idle(3), value).holds(), False)
        self.assertIs(Split(SPLIT, [[True, 0], [0, 0]]).holds(), False)
        self.assertIs(Split(SPLIT, [[1, 0], [0, False]]).holds(), False)

    def test_totals(self):
        # Counts behind the first total 0, and counts without one.
        self.assertIs(Split(SPLIT, [[1, 0], [0, 0], [0, 0]]).holds(), False)
        self.assertIs(Split(SPLIT, [[1, 0]]).holds(), False)
        self.assertIs(Split(SINGLE, [[1, 0], [1, 1]]).holds(), False)
        turner, counts = right_split()
        self.assertIs(Split(turner, trail(turner, len(counts) + 1)).holds(), False)
        self.assertIs(Split(turner, trail(turner, len(counts) + 6)).holds(), False)

    def test_of_another_turner(self):
        turner, counts = right_split()
        for other in (turner.started(1), SINGLE, SPLIT, Turner.idle(3)):
            self.assertIs(Split(other, counts).holds(), False)

    def test_lists_are_copied(self):
        turner, counts = right_split()
        answer = Split(turner, counts)
        counts[0][0] = 2
        counts.append([0])
        answer.counts[0].clear()
        answer.counts.pop()
        self.assertEqual((answer.counts, answer.dials), (right_split()[1], 8))
        self.assertIs(answer.holds(), True)
        given = [[1, [2, [3]]]]
        answer = Split(turner, given)
        given[0][1][1].append(4)
        answer.counts[0][1].clear()
        self.assertEqual(answer.counts, [[1, [2, [3]]]])

    def test_pairs(self):
        for many, expected in ((0, ((), ())), (1, ((0,), (1,))), (2, ((0, 0), (0, 1))),
                               (4, ((0, 0, 0, 0), (0, 0, 0, 1)))):
            self.assertTrue(same(Split(SPLIT, [0] * many).pair(), expected))
        self.assertEqual(Split(SPLIT, [0] * 300).pair(), ((0,) * 300, (0,) * 299 + (1,)))

    def test_the_pair_lies_in_different_rounds(self):
        for prime in PRIMES:
            for turner in tried(prime):
                answer = decide(turner)
                if not answer and prime ** answer.dials <= 3000:
                    one, other = answer.pair()
                    self.assertEqual((len(one), len(other)), (answer.dials, answer.dials))
                    self.assertNotIn(other, round_from(turner, one))
                    self.assertNotIn(one, round_from(turner, other))


class Facts(unittest.TestCase):
    """[12] against rounds of all settings."""

    def test_single_exactly_if_no_total_below_is_0(self):
        for prime in PRIMES:
            for turner in tried(prime):
                for dials in range(dials_of(prime, 400) + 1):
                    single = len(lengths(turner, dials)) == 1
                    self.assertEqual(single, 0 not in [total(turner, below) for below in range(dials)])

    def test_counts_say_how_often_each_state_comes_to_the_dial(self):
        for prime in PRIMES:
            for turner in tried(prime):
                counts = first_counts(turner)
                for dials in range(dials_of(prime, 130) + 1):
                    visits = [0] * len(turner)
                    setting = (0,) * dials
                    for _ in range(prime ** dials):
                        visits[turner.path(setting + (0,))[-1]] += 1
                        setting = turner(setting)
                    if len(lengths(turner, dials)) == 1:
                        self.assertEqual([many % prime for many in visits], counts)
                    counts = next_counts(turner, counts)

    def test_the_least_turner_has_the_same_answer(self):
        for prime in PRIMES:
            for turner in tried(prime):
                one, other = decide(turner), decide(least(turner))
                self.assertEqual((one.is_single, other.is_single), (bool(one), bool(one)))
                if not one:
                    self.assertEqual(one.dials, other.dials)

    def test_inverses(self):
        for prime in PRIMES:
            for turner in tried(prime):
                self.assertEqual(decide(turner.inverse()).told(), decide(turner).told())

    def test_generators_of_numbers(self):
        # A number n to f n + k goes once round for the prime 2 if f has the rest 1 modulo 4 and k is odd.
        for factor in range(-11, 12, 2):
            for add in range(-4, 5):
                answer = decide(affine(2, factor, add))
                self.assertEqual(answer.is_single, factor % 4 == 1 and add % 2 == 1)
        for prime in (3, 5, 7):
            for factor in (1, 1 + prime, 1 - prime, 1 + 2 * prime):
                for add in range(-4, 9):
                    self.assertEqual(decide(affine(prime, factor, add)).is_single, add % prime != 0)

    def test_many_states(self):
        for prime in PRIMES:
            turner = Turner(prime, mixed(prime, 240, 3), start=1)
            answer = decide(turner)
            self.assertTrue(answer.holds())
            self.assertEqual(answer.counts, trail(turner, len(answer.counts)))
            answer = decide(Turner(prime, ring(prime, 240, turn=1)))
            self.assertEqual(answer.told(), "split at 2 dials")
