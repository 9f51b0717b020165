import unittest

from ringwords.rings import turns_of
from ringwords.shortening import halves, is_short, shortened, shortens
from ringwords.steps import done, walked
from tests.helpers import (
    GENUS_TWO, THIN_PAIR, THIN_RINGS, all_turns, cancelled, chance_of, picked_round, picked_word, swapped, words_up_to)

RING = GENUS_TWO[0]
THICK_RINGS = [("abAB",), ("aa", "aaa"), ("ab", "aab", "bbb"), ("aabbcc",), ("abcABC", "a", "cc"), ("abABcdCD", "ae")]


def short_by_steps(rings, word):
    """Whether no step that shortens can be done, by the words of point 15."""
    if cancelled(word) != word:
        return False
    for turn in all_turns(rings):
        for many in range(len(turn) // 2 + 1, len(turn) + 1):
            if turn[:many] in word:
                return False
    return True


class Shortens(unittest.TestCase):
    def test_out_and_in(self):
        for place in (0, 1, 2000):
            self.assertIs(shortens(("out", place)), True)
            self.assertIs(shortens(("in", place, "a")), False)
            self.assertIs(shortens(("in", place, "F")), False)

    def test_even_turns(self):
        for turn in ("ab", "abAB", RING, "a" * 120):
            half = len(turn) // 2
            for many in range(half + 1):
                self.assertIs(shortens(("ring", 0, turn, many)), False, (turn, many))
            for many in range(half + 1, len(turn) + 1):
                self.assertIs(shortens(("ring", 7, turn, many)), True, (turn, many))

    def test_odd_turns(self):
        for turn in ("a", "aab", "aabbccd", "a" * 119):
            half = len(turn) // 2
            for many in range(half + 1):
                self.assertIs(shortens(("ring", 7, turn, many)), False, (turn, many))
            for many in range(half + 1, len(turn) + 1):
                self.assertIs(shortens(("ring", 0, turn, many)), True, (turn, many))

    def test_it_is_so_where_the_word_gets_shorter(self):
        for turn in sorted(all_turns(("abABcdCD", "aab", "ef", "e"))):
            for many in range(len(turn) + 1):
                word = done(("abABcdCD", "aab", "ef", "e"), turn, ("ring", 0, turn, many))
                self.assertIs(shortens(("ring", 0, turn, many)), len(word) < len(turn))


class Halves(unittest.TestCase):
    def test_told_ones(self):
        self.assertEqual(halves(()), [])
        self.assertEqual(halves(("a",)), ["A", "a"])
        self.assertEqual(halves(("ab",)), ["AB", "BA", "ab", "ba"])
        self.assertEqual(halves(("aab",)), ["AA", "AB", "BA", "aa", "ab", "ba"])
        self.assertEqual(halves(("aaaa",)), ["AAA", "aaa"])
        self.assertEqual(halves(("a", "aaaa")), ["A", "AAA", "a", "aaa"])
        self.assertEqual(halves(("abAB",)), sorted(["abA", "bAB", "ABa", "Bab", "baB", "aBA", "BAb", "Aba"]))

    def test_rising_each_once(self):
        for rings in THIN_RINGS + THICK_RINGS + [("aab", "aac"), ("aab", "BAA", "aba")]:
            told = halves(rings)
            self.assertIs(type(told), list)
            self.assertEqual(told, sorted({turn[:len(turn) // 2 + 1] for turn in all_turns(rings)}))

    def test_the_askers_own(self):
        told = halves(GENUS_TWO)
        told.clear()
        self.assertEqual(len(halves(GENUS_TWO)), 16)
        self.assertIs(is_short(GENUS_TWO, RING[:5]), False)
        self.assertEqual(len(turns_of(GENUS_TWO)), 16)


class Short(unittest.TestCase):
    def test_half_and_more_than_half(self):
        for turn in all_turns(GENUS_TWO):
            self.assertIs(is_short(GENUS_TWO, turn[:4]), True)
            self.assertIs(is_short(GENUS_TWO, turn[:5]), False)
            self.assertIs(is_short(GENUS_TWO, "e" + turn[:4] + "f"), True)
            self.assertIs(is_short(GENUS_TWO, "e" + turn[:5] + "f"), False)
            self.assertIs(is_short(GENUS_TWO, "e" + turn[:5]), False)
            self.assertIs(is_short(GENUS_TWO, turn[:4] + "f" + turn[:4]), True)
            self.assertIs(is_short(GENUS_TWO, turn[:4] + "f" + turn[4:5]), True)
        for turn in all_turns(("aabbccd",)):
            self.assertIs(is_short(("aabbccd",), turn[:3]), True)
            self.assertIs(is_short(("aabbccd",), turn[:4]), False)

    def test_not_reduced(self):
        for rings in ((), GENUS_TWO):
            for word in ("aA", "bAa", "eEe", "efF"):
                self.assertIs(is_short(rings, word), False)

    def test_no_rings(self):
        for word in words_up_to(2, 5):
            self.assertIs(is_short((), word), cancelled(word) == word)

    def test_by_the_steps_that_could_be_done(self):
        for rings in (("a",), ("ab",), ("aab",), ("bbb", "aaaa"), ("abAB",), ("aa", "aaa")):
            for word in words_up_to(2, 4):
                self.assertIs(is_short(rings, word), short_by_steps(rings, word), (rings, word))

    def test_long_words(self):
        self.assertIs(is_short(GENUS_TWO, "e" * 2000), True)
        self.assertIs(is_short(GENUS_TWO, "e" * 1995 + RING[:5]), False)
        self.assertIs(is_short((), "ab" * 1000), True)
        self.assertIs(is_short((), "ab" * 999 + "aA"), False)


class Shortened(unittest.TestCase):
    def look(self, rings, word):
        told = shortened(rings, word)
        self.assertIs(type(told), tuple)
        self.assertEqual(len(told), 2)
        steps, end = told
        self.assertIs(type(steps), tuple)
        for step in steps:
            self.assertTrue(step[0] == "out" or step[0] == "ring" and 2 * step[3] > len(step[2]), step)
        self.assertEqual(walked(rings, word, steps), end)
        self.assertTrue(short_by_steps(rings, end), (rings, word, end))
        return end

    def test_no_rings(self):
        for word in words_up_to(2, 6):
            self.assertEqual(self.look((), word), cancelled(word))

    def test_short_words_stay(self):
        for rings, word in ((GENUS_TWO, "abAB"), (GENUS_TWO, ""), ((), ""), ((), "abAB"), (("aaaa",), "aa")):
            self.assertEqual(shortened(rings, word), ((), word))

    def test_rings_and_their_turns(self):
        for rings in THIN_RINGS:
            for turn in all_turns(rings):
                self.assertEqual(self.look(rings, turn), "")
                self.assertEqual(self.look(rings, "fe" + turn + "EF"), "")
                self.assertEqual(self.look(rings, turn + turn + swapped(turn)), "")

    def test_words_of_few_letters(self):
        for rings in THIN_RINGS + THICK_RINGS:
            for word in words_up_to(2, 4):
                self.look(rings, word)

    def test_pieces_of_turns_one_behind_the_other(self):
        chance = chance_of(15)
        for rings in THIN_RINGS + THICK_RINGS:
            turns = sorted(all_turns(rings)) or ["ab"]
            for pick in range(60):
                word = ""
                while len(word) < 60:
                    turn = chance.choice(turns)
                    word += turn[:chance.randrange(len(turn) + 1)] + picked_word(chance, 2, chance.randrange(2))
                self.look(rings, word)

    def test_what_a_step_leaves_is_looked_at_ahead_of_it_too(self):
        # Each step at the end of the word makes the one ahead of it due.
        for depth in (1, 2, 5, 40):
            word = "".join("abcdef"[k % 6] for k in range(depth))
            self.assertEqual(self.look(("ab" * 8,), word + "ab" * 8 + swapped(word)), "")
            self.assertEqual(self.look(GENUS_TWO, "ab" + "AB" + word + RING + swapped(word) + "cdCD"), "")

    def test_great_rings_and_long_words(self):
        chance = chance_of(150)
        rings = tuple(picked_round(chance, 6, 120) for number in range(6))
        word = ""
        while len(word) < 900:
            turn = chance.choice(rings)
            front = picked_word(chance, 6, 8)
            word += front + turn + swapped(front)
        self.assertEqual(self.look(rings, word), "")
        self.assertEqual(self.look(rings, swapped(word)), "")
        self.assertEqual(self.look(THIN_PAIR, "e" * 1000), "E")
        self.assertEqual(self.look((), "aA" * 500), "")


if __name__ == "__main__":
    unittest.main()
