import unittest

from ringwords.letters import back, is_letter, is_reduced, is_round, is_word, power, reduced, times
from tests.helpers import (
    BIG, LETTERS, ODD_THINGS, cancelled, chance_of, nested, picked_word, swapped, words_up_to)

OTHER_SIGNS = "".join(chr(code) for code in range(32, 127) if chr(code) not in LETTERS + BIG and code != 37)


class Kinds(unittest.TestCase):
    def test_letters(self):
        for sign in LETTERS + BIG:
            self.assertIs(is_letter(sign), True)

    def test_signs_that_are_no_letters(self):
        for sign in OTHER_SIGNS:
            self.assertIs(is_letter(sign), False, sign)
            self.assertIs(is_word(6, sign), False, sign)
            self.assertIs(is_word(6, "ab" + sign), False, sign)
            self.assertIs(is_word(6, sign + "ab"), False, sign)

    def test_texts_that_are_no_letters(self):
        for text in ("", "aa", "aA", "ab", "a ", " a", "abcdef", "\u00e4", "\u0430"):
            self.assertIs(is_letter(text), False, text)

    def test_other_kinds(self):
        for thing in ODD_THINGS + [nested(100), ("a",), ("a", "b"), ["a", "b"], {"a": "A"}]:
            self.assertIs(is_letter(thing), False, thing)
            self.assertIs(is_word(6, thing), False, thing)

    def test_words_of_so_many_letters(self):
        for many in range(1, 7):
            self.assertIs(is_word(many, ""), True)
            self.assertIs(is_word(many, LETTERS[:many] + BIG[:many]), True)
            self.assertIs(is_word(many, "a" * 2000), True)
            for letter in LETTERS[:many] + BIG[:many]:
                self.assertIs(is_word(many, letter), True)
            for letter in LETTERS[many:] + BIG[many:]:
                self.assertIs(is_word(many, letter), False)
                self.assertIs(is_word(many, "aA" + letter), False)
                self.assertIs(is_word(many, letter + "aA"), False)

    def test_words_need_not_be_reduced(self):
        self.assertIs(is_word(1, "aAaA"), True)

    def test_nothing_handed_in_is_changed(self):
        for thing in ODD_THINGS:
            ahead = repr(thing)
            is_letter(thing)
            is_word(6, thing)
            self.assertEqual(repr(thing), ahead)


class Words(unittest.TestCase):
    def test_back(self):
        self.assertEqual(back(""), "")
        self.assertEqual(back("a"), "A")
        self.assertEqual(back("F"), "f")
        self.assertEqual(back("abC"), "cBA")
        self.assertEqual(back("aA"), "aA")
        for word in words_up_to(2, 5):
            self.assertEqual(back(word), swapped(word))
        self.assertEqual(back("abcdefABCDEF"), "fedcbaFEDCBA")

    def test_is_reduced(self):
        self.assertIs(is_reduced(""), True)
        self.assertIs(is_reduced("a"), True)
        self.assertIs(is_reduced("aa"), True)
        self.assertIs(is_reduced("aA"), False)
        self.assertIs(is_reduced("Aa"), False)
        self.assertIs(is_reduced("baB"), True)
        self.assertIs(is_reduced("abBc"), False)
        self.assertIs(is_reduced("bcfF"), False)
        for word in words_up_to(2, 5):
            self.assertIs(is_reduced(word), cancelled(word) == word, word)

    def test_is_round(self):
        self.assertIs(is_round(""), True)
        for letter in LETTERS + BIG:
            self.assertIs(is_round(letter), True)
        self.assertIs(is_round("aba"), True)
        self.assertIs(is_round("abA"), False)
        self.assertIs(is_round("Aba"), False)
        self.assertIs(is_round("aA"), False)
        self.assertIs(is_round("bcC"), False)
        self.assertIs(is_round("abABcdCD"), True)
        for word in words_up_to(2, 5):
            self.assertIs(is_round(word), cancelled(word + word) == word + word, word)

    def test_reduced(self):
        for word, left in (("", ""), ("a", "a"), ("aA", ""), ("Aa", ""), ("abBA", ""), ("abBAc", "c"),
                           ("aAbBcC", ""), ("abAB", "abAB"), ("bacCAbB", "b"), ("aAa", "a")):
            self.assertEqual(reduced(word), left)
        for word in words_up_to(2, 6):
            self.assertEqual(reduced(word), cancelled(word))

    def test_reduced_long_words(self):
        chance = chance_of(10)
        for many in range(1, 7):
            word = picked_word(chance, many, 200)
            self.assertEqual(reduced(word), cancelled(word))
            self.assertEqual(reduced(word + swapped(word)), "")
        self.assertEqual(reduced("abcdef" * 300 + "FEDCBA" * 300), "")

    def test_times(self):
        self.assertEqual(times("", ""), "")
        self.assertEqual(times("a", ""), "a")
        self.assertEqual(times("", "a"), "a")
        self.assertEqual(times("ab", "Ba"), "aa")
        self.assertEqual(times("ab", "BA"), "")
        self.assertEqual(times("ab", "ab"), "abab")
        self.assertEqual(times("aA", "b"), "b")
        self.assertEqual(times("b", "aA"), "b")
        for one in words_up_to(2, 3):
            for other in words_up_to(2, 2):
                self.assertEqual(times(one, other), cancelled(one + other))

    def test_power(self):
        for number in range(-20, 21):
            small = "a" if number >= 0 else "A"
            self.assertEqual(power("a", number), small * abs(number))
            self.assertEqual(power("", number), "")
            self.assertEqual(power("abBA", number), "")
            self.assertEqual(power("caC", number), "c" + small * abs(number) + "C" if number else "")
        for word in words_up_to(2, 4):
            for number in (-20, -3, -2, -1, 0, 1, 2, 3, 20):
                straight = (word if number >= 0 else swapped(word)) * abs(number)
                self.assertEqual(power(word, number), cancelled(straight))

    def test_power_of_a_long_word(self):
        word = "abABcdCDef" * 20
        self.assertEqual(power(word, 20), word * 20)
        self.assertEqual(power(word, -20), swapped(word) * 20)
        self.assertEqual(times(power(word, 20), power(word, -20)), "")


if __name__ == "__main__":
    unittest.main()
