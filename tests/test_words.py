import unittest

from sideturn.words import is_kind, is_name, is_number

LETTERS = "abcdefghijklmnopqrstuvwxyz"
TAKEN = "made asked def tab cross to number zero let make ask case new".split()


class Names(unittest.TestCase):
    def test_one_to_eight_small_letters(self):
        for many in range(1, 9):
            self.assertIs(is_name("q" * many), True)
        for letter in LETTERS:
            self.assertIs(is_name(letter), True)
        self.assertIs(is_name("abcdefgh"), True)
        self.assertIs(is_name("stuvwxyz"), True)

    def test_none_and_nine(self):
        for many in (0, 9, 10, 30000):
            self.assertIs(is_name("q" * many), False)

    def test_each_of_the_thirteen_words(self):
        self.assertEqual(len(set(TAKEN)), 13)
        for word in TAKEN:
            self.assertIs(is_name(word), False)

    def test_words_that_only_hold_or_nearly_are_a_taken_one(self):
        for word in TAKEN:
            for near in (word + "s", "x" + word, word + word[-1]):
                if len(near) <= 8:
                    self.assertIs(is_name(near), True)
        for word in ("name", "num", "op", "kind", "mad", "as", "t", "o", "news", "zer"):
            self.assertIs(is_name(word), True)

    def test_no_other_sign_of_those_texts_have(self):
        for code in range(0, 128):
            sign = chr(code)
            if sign not in LETTERS:
                for text in (sign, "a" + sign, sign + "a", "a" + sign + "a"):
                    self.assertIs(is_name(text), False)

    def test_letters_of_other_scripts(self):
        for text in ("\u00e4", "\u00df", "a\u00e9", "\u03b1", "\u0430", "\uff41", "\u00aa", "\u212a", "a\u0301", "\ud800"):
            self.assertIs(is_name(text), False)

    def test_asked_again_the_same_is_told(self):
        for text in ("a", "to", "", "abcdefghi"):
            self.assertIs(is_name(text), is_name(text))


class KindsAndNumbers(unittest.TestCase):
    def test_a_kind_is_a_name_or_number(self):
        self.assertIs(is_kind("number"), True)
        self.assertIs(is_kind("k"), True)
        for word in TAKEN:
            self.assertIs(is_kind(word), word == "number")
        self.assertIs(is_kind(""), False)

    def test_numbers_without_a_nought_ahead(self):
        for text in ("0", "1", "9", "10", "100", "999999", "100000"):
            self.assertIs(is_number(text), True)
        for text in ("", "00", "01", "000001", "1000000", "+1", "-1", "1_0", " 1", "1 ", "1.0", "a", "0x1"):
            self.assertIs(is_number(text), False)
        for text in ("\u0661", "\u00b2", "1\u0662", "9" * 30000):
            self.assertIs(is_number(text), False)
