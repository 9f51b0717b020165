import itertools
import unittest

from ringwords.cutting import cut, cut_word, glued
from ringwords.errors import NoBand, NoSlide
from ringwords.holes import holes
from ringwords.links import links
from ringwords.surfaces import is_surface
from tests.helpers import (
    BIG, LETTERS, all_surfaces, chance_of, is_root, picked_surface, picked_way, picked_word, words_up_to)


def without(letter, text):
    """The text without the letter and its back, letters of greater numbers one lesser, sign by sign."""
    told = ""
    for sign in text:
        for row in (LETTERS, BIG):
            if sign in row and sign.lower() != letter:
                told += row[row.index(sign) - (sign.lower() > letter)]
    return told


def some_surfaces(chance, least):
    """Surfaces of so many letters up to six: all of two, some of the others."""
    told = [surface for many in (1, 2) if many >= least for surface in all_surfaces(many)]
    for many in (3, 4, 5, 6):
        told += [picked_surface(chance, many) for turn in range(12)]
    return told


class Cut(unittest.TestCase):
    def refused(self, surface, letter):
        with self.assertRaises(NoBand) as caught:
            cut(surface, letter)
        self.assertEqual(caught.exception.letter, letter)
        self.assertIs(type(caught.exception.letter), str)

    def test_told_ones(self):
        self.assertEqual(cut("abAB", "a"), "aA")
        self.assertEqual(cut("abAB", "b"), "aA")
        self.assertEqual(cut("BAba", "a"), "Aa")
        self.assertEqual(cut("abAcBC", "a"), "abAB")
        self.assertEqual(cut("abAcBC", "b"), "aAbB")
        self.assertEqual(cut("abAcBC", "c"), "abAB")
        self.assertEqual(cut("fEdCbAFeDcBa", "c"), "eDcbAEdCBa")

    def test_each_small_letter(self):
        chance = chance_of(53)
        for surface in some_surfaces(chance, 2):
            for letter in LETTERS[:len(surface) // 2]:
                told = cut(surface, letter)
                self.assertEqual(told, without(letter, surface))
                self.assertIs(is_surface(told), True)
                self.assertEqual(len(told), len(surface) - 2)

    def test_other_texts(self):
        for surface in ("abAB", "aAbBcC", "abcdefABCDEF"):
            many = len(surface) // 2
            wrong = ["", " ", "?", "g", "G", "ab", "aA", "aa", "bA", surface, "abc", "a ", " a", "1", "-", "~", "ba", "AB"]
            for text in wrong + list(BIG) + list(LETTERS[many:]):
                self.refused(surface, text)

    def test_a_surface_of_one_letter(self):
        for surface in ("aA", "Aa"):
            for text in ("a", "A", "b", "", "aA", "?"):
                self.refused(surface, text)

    def test_words(self):
        self.assertEqual(cut_word("a", "bC"), "aB")
        self.assertEqual(cut_word("b", "aCA"), "aBA")
        self.assertEqual(cut_word("c", "abBA"), "abBA")
        self.assertEqual(cut_word("f", "eE"), "eE")
        self.assertEqual(cut_word("a", "fFbB"), "eEaA")
        self.assertEqual(cut_word("b", ""), "")
        self.assertIsNone(cut_word("a", "bAc"))
        self.assertIsNone(cut_word("a", "a"))
        self.assertIsNone(cut_word("b", "aaaB"))

    def test_all_short_words(self):
        for letter in "abc":
            for word in words_up_to(3, 4):
                told = cut_word(letter, word)
                if letter in word.lower():
                    self.assertIsNone(told)
                else:
                    self.assertIs(type(told), str)
                    self.assertEqual(told, without(letter, word))

    def test_picked_words(self):
        chance = chance_of(530)
        for turn in range(300):
            many = chance.randint(1, 6)
            word = picked_word(chance, many, chance.randint(0, 12))
            letter = chance.choice(LETTERS[:many])
            self.assertEqual(cut_word(letter, word), None if letter in word.lower() else without(letter, word))

    def test_holes(self):
        chance = chance_of(531)
        seen = set()
        for surface in some_surfaces(chance, 2):
            for letter in LETTERS[:len(surface) // 2]:
                there = [number for number, word in enumerate(holes(surface)) if letter in word]
                back_there = [number for number, word in enumerate(holes(surface)) if letter.upper() in word]
                self.assertEqual((len(there), len(back_there)), (1, 1))
                change = 1 if there == back_there else -1
                self.assertEqual(len(holes(cut(surface, letter))), len(holes(surface)) + change, (surface, letter))
                seen.add(change)
        self.assertEqual(seen, {1, -1})

    def test_ways_cross_as_often_as_ever(self):
        chance = chance_of(532)
        crossing = 0
        for turn in range(150):
            many = chance.randint(3, 6)
            surface = picked_surface(chance, many)
            letter = LETTERS[chance.randrange(many)]
            ways = []
            while len(ways) < 2:
                way = picked_way(chance, many, chance.randint(1, 6))
                if letter not in way.lower():
                    ways.append(way)
            there = tuple(cut_word(letter, way) for way in ways)
            for i, j in ((0, 0), (0, 1), (1, 1)):
                told = len(links(surface, tuple(ways), i, j))
                self.assertEqual(len(links(cut(surface, letter), there, i, j)), told, (surface, letter, ways))
                crossing += told
        self.assertGreater(crossing, 100)

    def test_short_ways_cross_as_often_as_ever(self):
        roots = [word for word in words_up_to(2, 3) if is_root(word)]
        for surface in ("abcABC", "aAbBcC", "cabACB"):
            for one, other in itertools.product(roots[::3], roots[::2]):
                told = len(links(cut(surface, "c"), (one, other), 0, 1))
                self.assertEqual(told, len(links(surface, (one, other), 0, 1)))


class Glued(unittest.TestCase):
    def test_told_ones(self):
        self.assertEqual(glued("aA", 0, 0), "BbaA")
        self.assertEqual(glued("aA", 0, 1), "bBaA")
        self.assertEqual(glued("aA", 0, 2), "baBA")
        self.assertEqual(glued("aA", 0, 3), "baAB")
        self.assertEqual(glued("aA", 1, 0), "BabA")
        self.assertEqual(glued("aA", 1, 3), "abAB")
        self.assertEqual(glued("aA", 2, 0), "BaAb")
        self.assertEqual(glued("aA", 2, 2), "aABb")
        self.assertEqual(glued("aA", 2, 3), "aAbB")
        self.assertEqual(glued("abcdeABCDE", 5, 11), "abcdefABCDEF")

    def test_every_pair_of_places(self):
        for surface in ("aA", "Aa", "abAB", "bBAa", "abcABC"):
            size = len(surface)
            letter = LETTERS[size // 2]
            for place, other in itertools.product(range(size + 1), range(size + 2)):
                row = list(surface)
                row.insert(place, letter)
                row.insert(other, letter.upper())
                told = glued(surface, place, other)
                self.assertEqual(told, "".join(row))
                self.assertIs(is_surface(told), True)
                self.assertEqual(cut(told, letter), surface)

    def test_places_that_are_none(self):
        for surface in ("aA", "abAB", "abcdeABCDE"):
            size = len(surface)
            for place in (-1, -2, -size, size + 1, size + 2, 10 ** 39, -10 ** 39):
                for other in (0, size + 1, -1, size + 2, 10 ** 39):
                    self.refused_slide(0, surface, place, other)
            for other in (-1, -2, -size, size + 2, size + 3, 10 ** 39, -10 ** 39):
                for place in (0, size):
                    self.refused_slide(1, surface, place, other)

    def refused_slide(self, number, surface, place, other):
        with self.assertRaises(NoSlide) as caught:
            glued(surface, place, other)
        self.assertEqual(caught.exception.place, number, (surface, place, other))

    def test_six_letters(self):
        for surface in ("abcdefABCDEF", "aAbBcCdDeEfF"):
            for place, other in ((0, 0), (12, 13), (-1, 0), (0, -1), (13, 14), (10 ** 39, 10 ** 39)):
                with self.assertRaises(NoBand) as caught:
                    glued(surface, place, other)
                self.assertEqual(caught.exception.letter, "")

    def test_the_new_letter_cut_again(self):
        chance = chance_of(533)
        for surface in some_surfaces(chance, 1):
            if len(surface) < 12:
                place, other = chance.randint(0, len(surface)), chance.randint(0, len(surface) + 1)
                told = glued(surface, place, other)
                letter = LETTERS[len(surface) // 2]
                self.assertEqual(cut(told, letter), surface)
                for word in ("", "a", "Aa", surface):
                    self.assertEqual(cut_word(letter, word), word)

    def test_holes(self):
        chance = chance_of(534)
        seen = set()
        for turn in range(150):
            surface = picked_surface(chance, chance.randint(1, 5))
            told = glued(surface, chance.randint(0, len(surface)), chance.randint(0, len(surface) + 1))
            letter = LETTERS[len(surface) // 2]
            apart = any(letter in word and letter.upper() not in word for word in holes(told))
            self.assertEqual(len(holes(told)), len(holes(surface)) + (1 if apart else -1))
            seen.add(apart)
        self.assertEqual(seen, {True, False})

    def test_words_cross_as_often_as_ever(self):
        chance = chance_of(535)
        for turn in range(60):
            many = chance.randint(2, 5)
            surface = picked_surface(chance, many)
            ways = (picked_way(chance, many, 5), picked_way(chance, many, 4))
            told = glued(surface, chance.randint(0, 2 * many), chance.randint(0, 2 * many + 1))
            for i, j in ((0, 0), (0, 1), (1, 1)):
                self.assertEqual(links(told, ways, i, j), links(surface, ways, i, j))


if __name__ == "__main__":
    unittest.main()
