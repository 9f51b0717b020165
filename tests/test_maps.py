import copy
import itertools
import unittest

from ringwords.maps import is_map, mapped, plain, then, way_by
from tests.helpers import (
    BIG, LETTERS, ODD_THINGS, cancelled, chance_of, nested, picked_way, picked_word, replaced, swapped, turned, words,
    words_up_to)


def picked_map(chance, many, most):
    """Some map of so many letters, its words of at most so many letters, empty ones among them."""
    return tuple(cancelled(picked_word(chance, many, chance.randint(0, most))) for letter in range(many))


def becomes(change, word):
    """What a word becomes, letter by letter, by the words of point 50."""
    parts = []
    for letter in word:
        part = change[LETTERS.index(letter.lower())]
        parts.append(part if letter.islower() else swapped(part))
    return cancelled("".join(parts))


def middle_turn(word):
    """The least turn of the middle of a word."""
    word = cancelled(word)
    while word and word[0] == word[-1].swapcase():
        word = word[1:-1]
    return min([turned(word, place) for place in range(len(word))], default="")


class Kinds(unittest.TestCase):
    def is_no_map(self, many, thing):
        kept = copy.deepcopy(thing)
        self.assertIs(is_map(many, thing), False, (many, thing))
        self.assertEqual(repr(thing), repr(kept))

    def test_maps(self):
        chance = chance_of(50)
        for many in range(1, 7):
            self.assertIs(is_map(many, tuple(LETTERS[:many])), True)
            self.assertIs(is_map(many, tuple(BIG[:many])), True)
            self.assertIs(is_map(many, ("",) * many), True)
            self.assertIs(is_map(many, ("a" * 200,) * many), True)
            self.assertIs(is_map(many, ("aa",) * many), True)
            for turn in range(30):
                self.assertIs(is_map(many, picked_map(chance, many, 12)), True)

    def test_all_of_one_letter(self):
        for word in words_up_to(1, 5) + ["b", "B", "ab", "g", "?"]:
            self.assertIs(is_map(1, (word,)), len(set(word)) <= 1 and set(word) <= {"a", "A"}, word)

    def test_all_short_ones_of_two_letters(self):
        for one, other in itertools.product(words_up_to(2, 2), repeat=2):
            self.assertIs(is_map(2, (one, other)), one == cancelled(one) and other == cancelled(other))

    def test_more_and_fewer(self):
        for many in range(1, 7):
            for count in range(8):
                self.assertIs(is_map(many, ("a",) * count), count == many)

    def test_letters_beyond(self):
        for many in range(1, 6):
            for place in range(many):
                for letter in LETTERS[many] + BIG[many] + LETTERS[5] + BIG[5] + "g":
                    for word in (letter, "a" + letter, letter + "a"):
                        self.is_no_map(many, replaced(plain(many), place, word))

    def test_not_reduced(self):
        for many in range(1, 7):
            for place in range(many):
                for word in ("aA", "Aa", "aaA", "Aaa", "aAaA"):
                    self.is_no_map(many, replaced(plain(many), place, word))
        self.is_no_map(2, ("abBA", "b"))
        self.is_no_map(2, ("a", "abBb"))
        self.assertIs(is_map(2, ("abA", "BaB")), True)

    def test_other_kinds(self):
        for many in range(1, 7):
            told = tuple(LETTERS[:many])
            for thing in [list(told), "".join(told), dict.fromkeys(told), (told,), told + (None,), [told], nested(100)]:
                self.is_no_map(many, thing)
            for place in range(many):
                for part in [None, True, False, 0, 1, [], ["a"], ("a",), {}, {"a": "a"}, " ", "a ", "?", nested(90)]:
                    self.is_no_map(many, replaced(told, place, part))
            for thing in ODD_THINGS:
                self.is_no_map(many, thing)
        self.is_no_map(1, None)
        self.is_no_map(1, ())
        self.is_no_map(1, "a")


class Mapped(unittest.TestCase):
    def test_told_ones(self):
        self.assertEqual(mapped(("ba", "b"), "aB"), "baB")
        self.assertEqual(mapped(("ba", "b"), "Ab"), "A")
        self.assertEqual(mapped(("ba", "b"), "A"), "AB")
        self.assertEqual(mapped(("b", "A"), "abAB"), "bABa")
        self.assertEqual(mapped(("", "b"), "abAB"), "")
        self.assertEqual(mapped(("", ""), "abab"), "")
        self.assertEqual(mapped(("a",), ""), "")
        self.assertEqual(mapped(("aa",), "aAA"), "AA")
        self.assertEqual(mapped(("ab", "Bab"), "aB"), "b")

    def test_all_short_words(self):
        for change in (("ba", "b"), ("b", "a"), ("", "ab"), ("abA", "aB"), ("A", "bb")):
            for word in words_up_to(2, 4):
                self.assertEqual(mapped(change, word), becomes(change, word), (change, word))

    def test_letters_and_their_backs(self):
        chance = chance_of(51)
        for many in range(1, 7):
            for turn in range(10):
                change = picked_map(chance, many, 6)
                for letter, part in zip(LETTERS, change):
                    self.assertEqual(mapped(change, letter), part)
                    self.assertEqual(mapped(change, letter.upper()), swapped(part))

    def test_picked_words(self):
        chance = chance_of(52)
        for turn in range(200):
            many = chance.randint(1, 6)
            change = picked_map(chance, many, 8)
            word = picked_word(chance, many, chance.randint(0, 30))
            told = mapped(change, word)
            self.assertIs(type(told), str)
            self.assertEqual(told, becomes(change, word))
            self.assertEqual(mapped(change, swapped(word)), swapped(told))

    def test_long_ones(self):
        word = "ab" * 100
        self.assertEqual(mapped(("a" * 50, "b" * 50), word), ("a" * 50 + "b" * 50) * 100)
        self.assertEqual(mapped(("a" * 200,), "aA" * 100), "")


class Then(unittest.TestCase):
    def test_told_ones(self):
        self.assertEqual(then(("ba", "b"), ("a", "ab")), ("aba", "ab"))
        self.assertEqual(then(("a", "ab"), ("ba", "b")), ("ba", "bab"))
        self.assertEqual(then(("b", "a"), ("b", "a")), ("a", "b"))
        self.assertEqual(then(("ba", "b"), ("Ba", "b")), ("a", "b"))

    def test_the_one_first(self):
        chance = chance_of(53)
        for turn in range(150):
            many = chance.randint(1, 6)
            one, other = picked_map(chance, many, 5), picked_map(chance, many, 5)
            told = then(one, other)
            self.assertIs(type(told), tuple)
            self.assertIs(is_map(many, told), True)
            self.assertEqual(told, tuple(becomes(other, part) for part in one))
            word = picked_word(chance, many, 12)
            self.assertEqual(mapped(told, word), mapped(other, mapped(one, word)))

    def test_plain(self):
        for many in range(1, 7):
            told = plain(many)
            self.assertIs(type(told), tuple)
            self.assertEqual(told, tuple(LETTERS[:many]))
            self.assertIs(is_map(many, told), True)

    def test_plain_ahead_and_behind(self):
        chance = chance_of(54)
        for turn in range(60):
            many = chance.randint(1, 6)
            change = picked_map(chance, many, 7)
            self.assertEqual(then(plain(many), change), change)
            self.assertEqual(then(change, plain(many)), change)
            word = picked_word(chance, many, 9)
            self.assertEqual(mapped(plain(many), word), cancelled(word))

    def test_three_by_either_pair(self):
        chance = chance_of(55)
        for turn in range(40):
            many = chance.randint(1, 6)
            one, two, three = [picked_map(chance, many, 4) for number in range(3)]
            self.assertEqual(then(then(one, two), three), then(one, then(two, three)))


class Ways(unittest.TestCase):
    def test_told_ones(self):
        self.assertEqual(way_by(("ba", "b"), "a"), "ab")
        self.assertEqual(way_by(("ba", "b"), "aB"), "a")
        self.assertEqual(way_by(("a", "b"), "ba"), "ab")
        self.assertEqual(way_by(("a", "b"), "bA"), "Ab")
        self.assertEqual(way_by(("abA", "c", "b"), "aa"), "bb")

    def test_nothing_left(self):
        self.assertEqual(way_by(("", "b"), "a"), "")
        self.assertEqual(way_by(("b", "b"), "aB"), "")
        self.assertEqual(way_by(("", "b"), "abAB"), "")
        self.assertEqual(way_by(("",), "A"), "")

    def test_all_short_words(self):
        for change in (("ba", "b"), ("b", "A"), ("", "ab"), ("abA", "aB"), ("aab", "bA")):
            for word in words(2, 1) + words(2, 3) + words(2, 4):
                self.assertEqual(way_by(change, word), middle_turn(becomes(change, word)), (change, word))

    def test_picked_ways(self):
        chance = chance_of(56)
        for turn in range(150):
            many = chance.randint(2, 6)
            change = picked_map(chance, many, 5)
            way = picked_way(chance, many, chance.randint(1, 30))
            told = way_by(change, way)
            self.assertIs(type(told), str)
            self.assertEqual(told, middle_turn(becomes(change, way)))
            for place in (1, 5):
                self.assertEqual(way_by(change, turned(way, place % len(way))), told)


if __name__ == "__main__":
    unittest.main()
