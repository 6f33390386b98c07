"""[16] and the interface of lowturns/words.py."""

import unittest

from lowturns.words import is_name, read_word, word_text
from tests.samples import FAR, ODD, same, told

RIGHT = ["a", "z", "ab", "abcdefgh", "zzzzzzzz", "turner", "drop", "e"]
WRONG = ["", "abcdefghi", "a" * 100, "A", "aB", "a1", "1", "0", "a b", " a", "a ", "a'", "'", "a_", "a-b", "a\n", "\n",
         ".", "a.", "~"]


class Names(unittest.TestCase):
    def test_lengths(self):
        for many in range(1, 9):
            self.assertIs(is_name("q" * many), True)
        for many in (0, 9, 10, 100000):
            self.assertIs(is_name("q" * many), False)

    def test_signs(self):
        for sign in (chr(code) for code in range(128)):
            for text in (sign, "ab" + sign, sign + "ab"):
                self.assertIs(is_name(text), "a" <= sign <= "z")

    def test_strings(self):
        for text in RIGHT:
            self.assertIs(is_name(text), True)
        for text in WRONG:
            self.assertIs(is_name(text), False)

    def test_values_of_other_kinds(self):
        for value in [*ODD, *FAR, 0, 1, ["a"], ("a",), ["a", "b"], b"a", 3.5]:
            self.assertIs(is_name(value), False)


class Words(unittest.TestCase):
    def test_by_hand(self):
        self.assertTrue(same(read_word("a b' a"), [("a", False), ("b", True), ("a", False)]))
        self.assertEqual(word_text([("a", False), ("b", True), ("a", False)]), "a b' a")
        self.assertTrue(same(read_word(""), []))
        self.assertEqual(word_text([]), "")
        self.assertTrue(same(read_word("abcdefgh'"), [("abcdefgh", True)]))

    def test_there_and_back(self):
        for many in range(40):
            letters = [(RIGHT[(many * 3 + at) % len(RIGHT)], (many + at * at) % 3 == 0) for at in range(many)]
            text = word_text(letters)
            self.assertEqual(text.count(" "), max(0, many - 1))
            self.assertTrue(same(read_word(text), letters))
            self.assertEqual(word_text(read_word(text)), text)
            self.assertEqual(word_text(tuple(letters)), text)

    def test_long_words(self):
        self.assertEqual(read_word("a " * 49999 + "b'"), [("a", False)] * 49999 + [("b", True)])

    def test_wrong_texts(self):
        wrong = [" ", " a", "a ", "a  b", "a b ", " a b", "  ", "a b  c", "'", "''", "a''", "'a", "a 'b", "a '", "' a",
                 "a' '", "a '' b", "a'b", "a' b''", "a,b", "a;b", "a\nb", "a b\n", "a\n", "\n", "a B", "a b1", "A",
                 "abcdefghi", "a abcdefghi'", "a b c D", "1", "a 2' b", "a\tb"]
        for text in wrong:
            self.assertEqual(told(self, read_word, text), ("InvalidText",))
        for name in WRONG:
            if name not in ("", "a b", "a'"):
                for text in (name, f"b {name}", f"{name} b", f"b {name}' c"):
                    self.assertEqual(told(self, read_word, text), ("InvalidText",))

    def test_values_that_are_no_strings(self):
        for value in [one for one in ODD if not isinstance(one, str)] + FAR + [0, ["a"], ("a", False), [("a", False)],
                                                                             b"a"]:
            self.assertEqual(told(self, read_word, value), ("InvalidText",))

    def test_new_lists_and_what_is_passed_stays(self):
        letters = [("a", True), ("b", False)]
        word_text(letters)
        self.assertTrue(same(letters, [("a", True), ("b", False)]))
        read_word("a' b").append(1)
        self.assertEqual(read_word("a' b"), letters)


if __name__ == "__main__":
    unittest.main()
