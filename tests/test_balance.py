import unittest

from ringwords.balance import balance
from tests.helpers import (
    LETTERS, all_surfaces, cancelled, chance_of, picked_surface, picked_word, swapped, turned, words_up_to)


def side(surface, x, y):
    """1 where one meets x y X Y going round from x, -1 where one meets x Y X y, else 0."""
    met = "".join(end for end in turned(surface, surface.index(x)) if end.lower() in (x, y))
    return {x + y + x.upper() + y.upper(): 1, x + y.upper() + x.upper() + y: -1}.get(met, 0)


def weighed(surface, one, other):
    """The balance of two words, letter by letter of both."""
    total = 0
    for first in one:
        for second in other:
            x, y = first.lower(), second.lower()
            sign = (1 if first.islower() else -1) * (1 if second.islower() else -1)
            if x < y:
                total += sign * side(surface, x, y)
            elif y < x:
                total -= sign * side(surface, y, x)
    return total


class Balance(unittest.TestCase):
    def look(self, surface, one, other):
        told = balance(surface, one, other)
        self.assertIs(type(told), int)
        self.assertEqual(told, weighed(surface, one, other), (surface, one, other))
        self.assertEqual(balance(surface, other, one), -told, (surface, one, other))
        return told

    def test_told_ones(self):
        for surface, one, other, wanted in (
                ("abAB", "a", "b", 1), ("abAB", "b", "a", -1), ("aBAb", "a", "b", -1), ("aBAb", "b", "a", 1),
                ("ABab", "a", "b", 1), ("AbaB", "a", "b", -1), ("abAB", "A", "b", -1), ("abAB", "A", "B", 1),
                ("abAB", "aab", "b", 2), ("abAB", "aab", "abb", 3), ("abAB", "ab", "ab", 0), ("aAbB", "a", "b", 0),
                ("abBA", "a", "b", 0), ("aBbA", "a", "b", 0), ("abcABC", "a", "bc", 2), ("abcABC", "b", "ac", 0),
                ("abcABC", "c", "ab", -2), ("abABcdCD", "ac", "bd", 2), ("abABcdCD", "ab", "cd", 0), ("aA", "a", "a", 0),
                ("acAC" + "bB", "a", "c", 1), ("acbCAB", "a", "b", 1)):
            self.assertEqual(self.look(surface, one, other), wanted, (surface, one, other))

    def test_both_orders_of_the_ends(self):
        # The row may begin anywhere; what counts is what follows behind the small end of the lesser letter.
        for place in range(4):
            self.assertEqual(balance(turned("abAB", place), "a", "b"), 1)
            self.assertEqual(balance(turned("aBAb", place), "a", "b"), -1)
            self.assertEqual(balance(turned("aAbB", place), "a", "b"), 0)
            self.assertEqual(balance(turned("abBA", place), "a", "b"), 0)
        for place in range(12):
            self.assertEqual(balance(turned("abcdefABCDEF", place), "a", "f"), 1)
            self.assertEqual(balance(turned("abcdeFABCDEf", place), "a", "f"), -1)
            self.assertEqual(balance(turned("abcdeFABCDEf", place), "f", "e"), 1)

    def test_single_letters_on_all_small_surfaces(self):
        for many in (1, 2, 3):
            for surface in all_surfaces(many):
                for x in LETTERS[:many]:
                    for y in LETTERS[:many]:
                        self.look(surface, x, y)

    def test_all_short_words(self):
        for surface in ("abAB", "aBAb", "aAbB", "bAaB", "BaAb", "bABa"):
            for one in words_up_to(2, 3):
                for other in words_up_to(2, 2):
                    self.look(surface, one, other)

    def test_no_twined_letters(self):
        chance = chance_of(31)
        for surface in ("aA", "aAbB", "abBA", "aAbBcC", "abBcCA", "abcdefFEDCBA", "aAbBcCdDeEfF"):
            many = len(surface) // 2
            for turn in range(10):
                self.assertEqual(self.look(surface, picked_word(chance, many, 40), picked_word(chance, many, 30)), 0)

    def test_nothing_and_the_same_word(self):
        chance = chance_of(310)
        for many in range(1, 7):
            for turn in range(10):
                surface = picked_surface(chance, many)
                word = picked_word(chance, many, 25)
                self.assertEqual(self.look(surface, "", word), 0)
                self.assertEqual(self.look(surface, word, ""), 0)
                self.assertEqual(self.look(surface, word, word), 0)
                self.assertEqual(self.look(surface, word, swapped(word)), 0)
                self.assertEqual(self.look(surface, word, word + swapped(word)), 0)
        self.assertEqual(self.look("abAB", "", ""), 0)

    def test_words_that_are_not_reduced(self):
        chance = chance_of(311)
        self.assertEqual(self.look("abAB", "aAab", "bBb"), 1)
        for many in range(1, 7):
            for turn in range(10):
                surface = picked_surface(chance, many)
                one, other = picked_word(chance, many, 40), picked_word(chance, many, 50)
                told = self.look(surface, one, other)
                self.assertEqual(self.look(surface, cancelled(one), other), told)
                self.assertEqual(self.look(surface, one, cancelled(other)), told)

    def test_picked_ones(self):
        chance = chance_of(312)
        seen = set()
        for turn in range(200):
            many = chance.randint(2, 6)
            surface = picked_surface(chance, many)
            one, other = picked_word(chance, many, chance.randint(0, 30)), picked_word(chance, many, chance.randint(0, 30))
            told = self.look(surface, one, other)
            seen.add(told > 0)
            third = picked_word(chance, many, 7)
            self.assertEqual(balance(surface, one + third, other), told + balance(surface, third, other))
        self.assertEqual(seen, {True, False})
        self.look("abcdefABCDEF", picked_word(chance, 6, 200), picked_word(chance, 6, 200))


if __name__ == "__main__":
    unittest.main()
