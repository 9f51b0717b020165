import unittest

from ringwords.rounds import core, least_turn, rooted, sums, turns
from tests.helpers import LETTERS, cancelled, chance_of, picked_round, picked_word, swapped, words_up_to


class Core(unittest.TestCase):
    def test_told_ones(self):
        for word, pair in (("", ("", "")), ("a", ("", "a")), ("aA", ("", "")), ("abA", ("a", "b")),
                           ("Aba", ("A", "b")), ("abcBA", ("ab", "c")), ("abab", ("", "abab")),
                           ("abaBA", ("ab", "a")), ("cabBaC", ("c", "aa")), ("bAaaB", ("b", "a"))):
            self.assertEqual(core(word), pair, word)

    def test_kinds(self):
        pair = core("abA")
        self.assertIs(type(pair), tuple)
        self.assertEqual(len(pair), 2)

    def test_it_is_what_the_word_is_reduced_to(self):
        for word in words_up_to(2, 6):
            front, middle = core(word)
            self.assertEqual(front + middle + swapped(front), cancelled(word))
            self.assertEqual(cancelled(middle + middle), middle + middle)
            if cancelled(word) == "":
                self.assertEqual((front, middle), ("", ""))

    def test_a_long_front(self):
        front = "abcdefAB" * 12
        self.assertEqual(core(front + "cd" + swapped(front)), (front, "cd"))
        self.assertEqual(core(front + swapped(front)), ("", ""))
        front = "ab" * 20000
        self.assertEqual(core(front + "c" + swapped(front)), (front, "c"))


class Turns(unittest.TestCase):
    def test_told_ones(self):
        self.assertEqual(turns(""), [""])
        self.assertEqual(turns("a"), ["a"])
        self.assertEqual(turns("bA"), ["bA", "Ab"])
        self.assertEqual(turns("abc"), ["abc", "bca", "cab"])
        self.assertEqual(turns("abab"), ["abab", "baba", "abab", "baba"])
        self.assertEqual(turns("aA"), ["aA", "Aa"])

    def test_a_list_of_the_askers_own(self):
        for word in ("", "ab"):
            told = turns(word)
            self.assertIs(type(told), list)
            kept = list(told)
            told.append("more")
            told[0] = "other"
            self.assertEqual(turns(word), kept)

    def test_one_from_each_place(self):
        chance = chance_of(12)
        word = picked_word(chance, 6, 120)
        told = turns(word)
        self.assertEqual(len(told), 120)
        for place in range(120):
            self.assertEqual(told[place], (word + word)[place:place + 120])

    def test_least(self):
        self.assertEqual(least_turn(""), "")
        self.assertEqual(least_turn("a"), "a")
        self.assertEqual(least_turn("aB"), "Ba")
        self.assertEqual(least_turn("cab"), "abc")
        self.assertEqual(least_turn("aAbB"), "AbBa")
        for word in words_up_to(2, 5):
            if word:
                self.assertEqual(least_turn(word), sorted((word + word)[k:k + len(word)] for k in range(len(word)))[0])


    def test_least_of_picked_words_and_their_powers(self):
        chance = chance_of(122)
        for turn in range(400):
            word = picked_word(chance, chance.randint(1, 2), chance.randint(1, 14)) * chance.randint(1, 3)
            self.assertEqual(least_turn(word), min(turns(word)), word)

    def test_least_of_long_words(self):
        # Words told elsewhere may be so long that there is no room for all their turns.
        self.assertEqual(least_turn("b" + "ab" * 30000), "ab" * 30000 + "b")
        self.assertEqual(least_turn("a" * 60000), "a" * 60000)
        self.assertEqual(least_turn("a" * 30000 + "b" + "a" * 30000), "a" * 60000 + "b")
        self.assertEqual(least_turn("ab" * 30000 + "aab"), "aab" + "ab" * 30000)
        self.assertEqual(least_turn("aab" * 20000 + "A"), "A" + "aab" * 20000)


class Roots(unittest.TestCase):
    def test_told_ones(self):
        for word, pair in (("a", ("a", 1)), ("A", ("A", 1)), ("aa", ("a", 2)), ("aba", ("aba", 1)),
                           ("abab", ("ab", 2)), ("ababa", ("ababa", 1)), ("aabaab", ("aab", 2)),
                           ("bbbbbb", ("b", 6)), ("abABcdCD", ("abABcdCD", 1)), ("aabaaabaaabaa", ("aabaaabaaabaa", 1))):
            self.assertEqual(rooted(word), pair, word)
            self.assertIs(type(rooted(word)), tuple)

    def test_roots_told_some_times(self):
        chance = chance_of(120)
        for length in (1, 2, 3, 7, 12):
            for pick in range(20):
                root = picked_round(chance, 2, length)
                if any(root == root[:part] * (length // part) for part in range(1, length) if length % part == 0):
                    continue
                for many in (1, 2, 3, 10):
                    self.assertEqual(rooted(root * many), (root, many))

    def test_a_root_is_not_a_shorter_word_some_times(self):
        for word in words_up_to(2, 6):
            if word and cancelled(word + word) == word + word:
                root, many = rooted(word)
                self.assertEqual(root * many, word)
                sizes = [size for size in range(1, len(word) + 1) if word == word[:size] * (len(word) // size)]
                self.assertEqual(len(root), sizes[0])


class Sums(unittest.TestCase):
    def test_told_ones(self):
        self.assertEqual(sums(1, ""), (0,))
        self.assertEqual(sums(6, ""), (0, 0, 0, 0, 0, 0))
        self.assertEqual(sums(1, "a"), (1,))
        self.assertEqual(sums(1, "A"), (-1,))
        self.assertEqual(sums(2, "abAB"), (0, 0))
        self.assertEqual(sums(2, "aab"), (2, 1))
        self.assertEqual(sums(3, "aabCCaB"), (3, 0, -2))
        self.assertEqual(sums(3, "aab"), (2, 1, 0))
        self.assertEqual(sums(6, "fFFa"), (1, 0, 0, 0, 0, -1))
        self.assertEqual(sums(1, "aAAA"), (-2,))

    def test_each_count_of_letters(self):
        chance = chance_of(121)
        for many in range(1, 7):
            word = picked_word(chance, many, 200)
            told = sums(many, word)
            self.assertIs(type(told), tuple)
            wanted = [sum((sign == small) - (sign == small.upper()) for sign in word) for small in LETTERS[:many]]
            self.assertEqual(list(told), wanted)


if __name__ == "__main__":
    unittest.main()
