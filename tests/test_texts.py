"""[8]: the texts of turners, there and back."""

import re
import unittest

from lowturns.turners import Turner
from tests.samples import FAR, ODD, PRIMES, counter, mixed, ring, same, told, turners

NUMBER = "(?:0|[1-9][0-9]{0,2})"
STATE = f" {NUMBER} {NUMBER}(?:,{NUMBER})*"
TEXT = re.compile(f"{NUMBER} {NUMBER}:{STATE}(?:;{STATE})*")


def parts_of(text):
    """The prime, the start and the states that a text tells, or None; straight from [8]."""
    if not TEXT.fullmatch(text) or not text.isascii():
        return None
    head, body = text.split(":")
    prime, start = map(int, head.split(" "))
    states = []
    for part in body.split(";"):
        turn, targets = part[1:].split(" ")
        states.append((int(turn), tuple(map(int, targets.split(",")))))
    many = len(states)
    right = prime in PRIMES and start < many <= 240 and all(
        turn < prime and len(targets) == prime and max(targets) < many for turn, targets in states)
    return (prime, start, states) if right else None


def bent(text):
    """Texts that differ from this one at one place."""
    signs = [" ", "0", "1", "2", "3", "9", ",", ";", ":", "-", "+", "_", ".", "a", "\n", "\t", "'", "00", "  "]
    found = [text[:at] + text[at + 1:] for at in range(len(text))]
    found += [text[:at] + sign + text[at:] for at in range(len(text) + 1) for sign in signs]
    found += [text[:at] + sign + text[at + 1:] for at in range(len(text)) for sign in signs]
    found += [text[:at] + text[at + 1] + text[at] + text[at + 2:] for at in range(len(text) - 1)]
    return found


class ThereAndBack(unittest.TestCase):
    def test_example(self):
        self.assertEqual(counter(2).text, "2 0: 1 1,0; 0 1,1")
        self.assertEqual(Turner.read("2 0: 1 1,0; 0 1,1"), counter(2))

    def test_by_hand(self):
        self.assertEqual(Turner.idle(7).text, "7 0: 0 0,0,0,0,0,0,0")
        turner = Turner(3, [(2, (0, 1, 2)), (0, (2, 2, 2)), (1, (1, 0, 0))], start=2)
        self.assertEqual(turner.text, "3 2: 2 0,1,2; 0 2,2,2; 1 1,0,0")
        self.assertEqual(Turner.read("3 2: 2 0,1,2; 0 2,2,2; 1 1,0,0"), turner)

    def test_turners(self):
        for prime in PRIMES:
            for turner in turners(prime):
                self.assertEqual(parts_of(turner.text), (prime, turner.start, turner.states()))
                other = Turner.read(turner.text)
                self.assertIsInstance(other, Turner)
                self.assertTrue(same([other.prime, other.start, other.states()],
                                     [prime, turner.start, turner.states()]))
                self.assertEqual(other.text, turner.text)

    def test_most_states(self):
        for prime in PRIMES:
            for start in (0, 9, 10, 99, 100, 239):
                turner = Turner(prime, mixed(prime, 240, start), start=start)
                self.assertEqual(parts_of(turner.text), (prime, start, turner.states()))
                self.assertEqual(Turner.read(turner.text), turner)


class Wrong(unittest.TestCase):
    def test_bent_texts(self):
        for text in ("2 0: 1 1,0; 0 1,1", "3 1: 0 0,1,0; 2 1,1,0", "5 0: 4 0,0,0,0,0", counter(7).started(1).text,
                     Turner(2, ring(2, 11), start=10).text):
            self.assertIsNotNone(parts_of(text))
            for other in bent(text):
                parts = parts_of(other)
                if parts is None:
                    self.assertEqual(told(self, Turner.read, other), ("InvalidText",), other)
                else:
                    self.assertEqual(Turner.read(other), Turner(parts[0], parts[2], start=parts[1]))

    def test_numbers_of_other_lengths(self):
        for word in ("00", "01", "000", "001", "0001", "1000", "0000", "10000", "1" * 5000, "+1", "-1", "-0", "1_0", ""):
            for text in (f"{word} 0: 1 1,0; 0 1,1", f"2 {word}: 1 1,0; 0 1,1", f"2 0: {word} 1,0; 0 1,1",
                         f"2 0: 1 {word},0; 0 1,1", f"2 0: 1 1,0; 0 1,{word}"):
                self.assertEqual(told(self, Turner.read, text), ("InvalidText",), text)

    def test_numbers_of_three_and_four_digits(self):
        text = Turner(2, ring(2, 240), start=100).text
        self.assertIn("; 0 100,100;", text)
        self.assertEqual(len(Turner.read(text)), 240)
        for other in ("0100", "1000", "0101", "0010", "010"):
            self.assertEqual(told(self, Turner.read, text.replace(" 100,100", f" {other},100")), ("InvalidText",))
            self.assertEqual(told(self, Turner.read, text.replace("2 100:", f"2 {other}:")), ("InvalidText",))

    def test_numbers_that_make_no_turner(self):
        for text in ("4 0: 0 0,0,0,0", "1 0: 0 0", "0 0: 0 0", "11 0: 0 0,0,0,0,0,0,0,0,0,0,0", "2 1: 0 0,0",
                     "2 0: 2 0,0", "2 0: 0 1,0", "2 0: 0 0,1", "2 0: 0 0,0,0", "2 0: 0 0", "3 0: 0 0,0",
                     "2 2: 0 0,0; 0 0,0", "2 0: 0 0,0; 0 0,2", "2 240: 0 0,0", "2 0: 999 0,0"):
            self.assertEqual(told(self, Turner.read, text), ("InvalidText",), text)

    def test_241_states(self):
        text = "2 0:" + ";".join([" 0 0,0"] * 240)
        self.assertEqual(len(Turner.read(text)), 240)
        self.assertEqual(told(self, Turner.read, text + "; 0 0,0"), ("InvalidText",))

    def test_other_forms(self):
        for text in ("", " ", ":", "2 0:", "2 0: ", "2 0", "2: 0 0,0", "2 0: 0", "2 0: 0 ", "2 0: 0 0,0;", "2 0: 0 0,0; ",
                     " 2 0: 0 0,0", "2 0: 0 0,0 ", "2 0: 0 0,0\n", "\n2 0: 0 0,0", "2  0: 0 0,0", "2 0:  0 0,0",
                     "2 0 : 0 0,0", "2 0: 0  0,0", "2 0: 0 0, 0", "2 0: 0 0 ,0", "2 0: 0 0,0;0 0,0", "2 0: 0 0,0;  0 0,0",
                     "2 0: 0 0,0 ; 0 0,0", "2 0: 0 0,,0", "2 0: 0 ,0,0", "2 0: 0 0,0,", "2 0: 0 0;0", "2,0: 0 0,0",
                     "2 0 0: 0 0,0", "2 0: 0: 0 0,0", "2 0: 0 0 0,0", "2 0:0 0,0", "2\t0: 0 0,0", "empty", "2 0: 0 a,0",
                     "2 0: 0 0,0: 0 0,0", "2 x: 0 0,0", "0x2 0: 0 0,0"):
            self.assertEqual(told(self, Turner.read, text), ("InvalidText",), text)

    def test_digits_of_other_scripts(self):
        for digit in ("\u0662", "\uff12", "\u00b2"):
            self.assertEqual(told(self, Turner.read, f"{digit} 0: 0 0,0"), ("InvalidText",))
        self.assertEqual(told(self, Turner.read, "2 0: 0 \u0660,0"), ("InvalidText",))

    def test_values_that_are_no_strings(self):
        for value in [*ODD, *FAR, 2, ("2 0: 0 0,0",), ["2 0: 0 0,0"], b"2 0: 0 0,0", (2, 0)]:
            self.assertEqual(told(self, Turner.read, value), ("InvalidText",))

    def test_long_texts(self):
        for text in ("1" * 100000, "2 0: " + "0 0,0; " * 14000, "," * 100000, "2 0: 0 " + "0," * 49000 + "0"):
            self.assertEqual(told(self, Turner.read, text), ("InvalidText",))
