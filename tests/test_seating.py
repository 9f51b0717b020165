import itertools
import unittest

from ringwords.nonechecker import lets_none
from ringwords.seating import seated
from ringwords.tables import is_table
from tests.helpers import LETTERS, cancelled, chance_of, picked_round, picked_word, swapped, words, words_up_to


def led_to(table, seat, word):
    """Where a word leads, by the words of point 3."""
    for letter in word:
        row = table[LETTERS.index(letter.lower())]
        seat = row[seat] if letter.islower() else row.index(seat)
    return seat


def all_tables(many, most):
    """All tables of so many letters and at most so many seats."""
    told = []
    for seats in range(1, most + 1):
        told += itertools.product(itertools.permutations(range(seats)), repeat=many)
    return told


def shows(table, seat, rings, word):
    """Whether the table and the seat show that the word is not nothing by the rings."""
    fits = all(led_to(table, other, ring) == other for ring in rings for other in range(len(table[0])))
    return fits and led_to(table, seat, word) != seat


def is_there(many, rings, word, most):
    """Whether some table and seat show that the word is not nothing, by going through all of them."""
    return any(shows(table, seat, rings, word) for table in all_tables(many, most) for seat in range(len(table[0])))


class SeatedTest(unittest.TestCase):
    def look(self, many, rings, word, most, wanted):
        told = seated(many, rings, word, most)
        if not wanted:
            self.assertIsNone(told, (many, rings, word, most))
            return
        self.assertIsNotNone(told, (many, rings, word, most))
        self.assertEqual([type(told), len(told)], [tuple, 2])
        table, seat = told
        self.assertIs(is_table(many, table), True)
        self.assertIs(type(seat), int)
        self.assertLessEqual(len(table[0]), most)
        self.assertIn(seat, range(len(table[0])))
        self.assertTrue(shows(table, seat, rings, word), (many, rings, word, most, told))
        self.assertIs(lets_none(many, rings, word, ("seats", table, seat)), True)


class OneLetter(SeatedTest):
    def test_all_powers(self):
        for rings in ((), ("a",), ("aa",), ("aaa",), ("AAAA",), ("aa", "aaa"), ("aaaa", "aaaaaa"), ("a" * 12,), ("a" * 5,)):
            for length in range(14):
                for word in ("a" * length, "A" * length):
                    for most in range(1, 5):
                        self.look(1, rings, word, most, is_there(1, rings, word, most))

    def test_just_so_many_seats(self):
        # Of one letter a word of n letters leads a seat elsewhere just where the seat's round does not divide n.
        for word, rings, least in (("a", (), 2), ("aa", (), 3), ("a" * 6, (), 4), ("A" * 6, (), 4), ("a", ("aaa",), 3),
                                   ("aa", ("aaaa",), 4), ("aaa", ("aaaa",), 2), ("a", ("aa",), 2), ("a" * 18, (), 4)):
            for most in range(1, 5):
                self.look(1, rings, word, most, most >= least)

    def test_none_at_all(self):
        for most in range(1, 5):
            self.look(1, (), "a" * 12, most, False)
            self.look(1, ("aa", "aaa"), "a", most, False)
            self.look(1, ("a" * 5,), "a", most, False)
            self.look(1, ("a",) * 6, "a" * 7, most, False)


class TwoLetters(SeatedTest):
    def test_no_rings(self):
        for word in words_up_to(2, 4):
            for most in (1, 2, 3):
                self.look(2, (), word, most, is_there(2, (), word, most))

    def test_no_rings_and_four_seats(self):
        for word in words(2, 3) + ["abAB", "aabb", "abABabAB", "aabbAABB", "a" * 6, "abABabABabAB", "a" * 12, "b" * 12]:
            self.look(2, (), word, 4, is_there(2, (), word, 4))

    def test_just_so_many_seats(self):
        doubled = "abAB" + "aBAb" + swapped("abAB") + swapped("aBAb")
        for rings, word, least in (((), "ab", 2), ((), "abAB", 3), ((), "aabb", 3), ((), "a" * 6, 4), ((), "b" * 6, 4),
                                   ((), doubled, 4), (("aa", "bbb"), "b", 3), (("aa", "bbb"), "abAB", 3),
                                   (("aa", "bbb", "abababab"), "baba", 4), (("bbbb",), "bb", 4), (("a", "bbbb"), "BB", 4)):
            for most in range(1, 5):
                self.assertEqual(is_there(2, rings, word, most), most >= least, (rings, word, most))
                self.look(2, rings, word, most, most >= least)

    def test_rings_that_lead_every_seat_to_itself(self):
        for rings in (("a", "b"), ("ab", "b"), ("aa", "aaa", "b"), ("ab", "abb"), ("a" * 5, "b"), ("abAB", "a", "B")):
            for word in ("a", "b", "ab", "abAB", "aab", "BBA"):
                for most in range(1, 5):
                    self.look(2, rings, word, most, False)

    def test_words_that_are_reduced_to_nothing(self):
        for word in ("", "aA", "abBA", "aAbBaA", "bBbB", "BaAb", "ab" * 50 + "BA" * 50):
            for rings in ((), ("abAB",), ("aa", "bb")):
                for most in range(1, 5):
                    self.look(2, rings, word, most, False)

    def test_words_that_are_not_reduced(self):
        for word, rings in (("aAb", ()), ("abBb", ("aa",)), ("baABb", ("abAB",)), ("aaA", ("bb",)), ("abABbB", ("aa", "bbb"))):
            for most in range(1, 5):
                self.look(2, rings, word, most, is_there(2, rings, word, most))
                self.look(2, rings, word, most, is_there(2, rings, cancelled(word), most))

    def test_a_ring_is_nothing(self):
        for ring in ("abAB", "aabb", "abab", "aaabbb"):
            for word in (ring, swapped(ring), ring * 3, "b" + ring + "B"):
                for most in range(1, 5):
                    self.look(2, (ring,), word, most, False)

    def test_picked_ones(self):
        chance = chance_of(21)
        told = []
        for turn in range(120):
            rings = tuple(picked_round(chance, 2, chance.randint(1, 5)) for number in range(chance.randint(0, 3)))
            word = picked_word(chance, 2, chance.randint(1, 8))
            most = chance.choice((1, 2, 3, 3, 3, 4))
            wanted = is_there(2, rings, word, most)
            told.append(wanted)
            self.look(2, rings, word, most, wanted)
        self.assertGreater(min(told.count(True), told.count(False)), 20)

    def test_long_ones(self):
        chance = chance_of(210)
        rings = ("ab" * 60, "a" * 120, "b" * 120, "aabb" * 30, "abAB" * 30, "aB" * 60)
        for word in ("a", "ab" * 100, "abAB" * 50, picked_round(chance, 2, 200)):
            for most in (2, 3):
                self.look(2, rings, word, most, is_there(2, rings, word, most))
        told = seated(2, rings, "a", 4)
        self.assertTrue(shows(told[0], told[1], rings, "a"))


class ThreeLetters(SeatedTest):
    def test_no_rings(self):
        for word in ("", "a", "b", "c", "C", "aa", "cc", "abc", "abAB", "bcBC", "acAC", "a" * 6, "c" * 6, "abcABC", "cCbB",
                     "aabbcc", "abcabc", "aacAAC"):
            for most in (1, 2, 3):
                self.look(3, (), word, most, is_there(3, (), word, most))

    def test_just_so_many_seats(self):
        for rings, word, least in (((), "c", 2), ((), "bcBC", 3), (("a", "b"), "cc", 3), (("ab", "bc"), "aa", 3),
                                   (("a", "b", "ccc"), "c", 3), (("aa", "bb", "cc"), "abc", 2), (("a", "b", "c"), "c", 9),
                                   (("aabbcc",), "abc", 2), (("ab", "bc", "ca"), "a", 2), (("abc",), "abAB", 3)):
            for most in (1, 2, 3):
                self.assertEqual(is_there(3, rings, word, most), most >= least, (rings, word, most))
                self.look(3, rings, word, most, most >= least)

    def test_picked_ones(self):
        chance = chance_of(211)
        for turn in range(60):
            rings = tuple(picked_round(chance, 3, chance.randint(1, 5)) for number in range(chance.randint(0, 4)))
            word = picked_word(chance, 3, chance.randint(1, 7))
            most = chance.choice((1, 2, 3, 3))
            self.look(3, rings, word, most, is_there(3, rings, word, most))


    def test_words_that_the_rings_make_nothing(self):
        for most in (1, 2, 3):
            self.look(3, ("aabbc", "c"), "aabb", most, False)
            self.look(3, ("abAB", "c"), "caabACAB", most, False)


class Kept(SeatedTest):
    def test_the_same_whatever_was_asked_before(self):
        for most in (4, 1, 3, 2, 4):
            self.look(2, (), "abAB", most, most >= 3)
            self.look(1, ("aaa",), "a", most, most >= 3)


if __name__ == "__main__":
    unittest.main()
