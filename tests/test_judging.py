import unittest

from ringwords.errors import NoPaper, NoThin
from ringwords.judging import judged
from ringwords.letters import power, times
from ringwords.nonechecker import lets_none
from ringwords.nothingchecker import lets_nothing
from ringwords.rings import thick
from ringwords.shortening import halves
from ringwords.steps import walked
from ringwords.tables import led, unkept
from tests.helpers import (
    GENUS_TWO, THIN_PAIR, THIN_RINGS, all_turns, cancelled, chance_of, picked_round, picked_word, swapped, words_up_to)

RING = GENUS_TWO[0]


def shortening_steps(rings, word):
    """All steps that shorten and can be done on the word."""
    steps = [("out", place) for place in range(len(word) - 1) if word[place + 1] == word[place].swapcase()]
    for turn in all_turns(rings):
        for many in range(len(turn) // 2 + 1, len(turn) + 1):
            place = word.find(turn[:many])
            while place >= 0:
                steps.append(("ring", place, turn, many))
                place = word.find(turn[:many], place + 1)
    return sorted(steps)


class JudgingTest(unittest.TestCase):
    def judge(self, many, rings, word):
        """The judgement, its paper looked at by both checkers."""
        told = judged(rings, word)
        self.assertIs(type(told), tuple)
        self.assertEqual(len(told), 2)
        kind, paper = told
        self.assertIn(kind, ("nothing", "none"))
        if kind == "nothing":
            self.assertIs(lets_nothing(rings, word, paper), True)
            with self.assertRaises(NoPaper):
                lets_none(many, rings, word, paper)
            with self.assertRaises(NoPaper):
                lets_none(many, rings, word, ("short", paper))
        else:
            self.assertIs(lets_none(many, rings, word, paper), True)
            with self.assertRaises(NoPaper):
                lets_nothing(rings, word, paper)
            if paper[0] == "short":
                with self.assertRaises(NoPaper):
                    lets_nothing(rings, word, paper[1])
        return kind


class Judged(JudgingTest):
    def test_no_rings(self):
        for word in words_up_to(2, 5):
            self.assertEqual(self.judge(2, (), word), "none" if cancelled(word) else "nothing")

    def test_nothing(self):
        for rings in THIN_RINGS:
            self.assertEqual(self.judge(6, rings, ""), "nothing")
            self.assertEqual(self.judge(6, rings, "fabBAF"), "nothing")
            for turn in all_turns(rings):
                self.assertEqual(self.judge(6, rings, turn), "nothing")
                self.assertEqual(self.judge(6, rings, "cF" + turn + "fC"), "nothing")

    def test_none(self):
        for word in ("a", "abAB", "aabb", "abABcdC", "abABcdCDa", RING[:7], "abABdcDC", "ef"):
            self.assertEqual(self.judge(6, GENUS_TWO, word), "none", word)
        for number in range(1, 20):
            self.assertEqual(self.judge(1, ("aaaaaaa",), "a" * number), "none" if number % 7 else "nothing")
            self.assertEqual(self.judge(2, ("ab" * 7,), "BA" * number), "none" if number % 7 else "nothing")

    def test_sums_that_no_ring_makes(self):
        # Of the one ring all sums are 0, so a word with another sum is none.
        chance = chance_of(19)
        for pick in range(200):
            word = picked_word(chance, 4, chance.randrange(1, 60))
            word += "a" if word.count("a") == word.count("A") else ""
            self.assertEqual(self.judge(4, GENUS_TWO, word), "none")

    def test_thick(self):
        for rings in (("abAB",), ("aabbcc",), ("aa", "aaa"), ("abABcdCD", "ae")):
            for word in ("", "a", "abAB", "aA"):
                with self.assertRaises(NoThin) as caught:
                    judged(rings, word)
                told = (caught.exception.turn, caught.exception.other, caught.exception.piece)
                self.assertEqual(told, thick(rings))
        with self.assertRaises(NoThin) as caught:
            judged(("abAB",), "abAB")
        self.assertEqual(
            (caught.exception.turn, caught.exception.other, caught.exception.piece), ("ABab", "AbaB", "A"))

    def test_long_words(self):
        chance = chance_of(190)
        rings = tuple(picked_round(chance, 6, 120) for number in range(6))
        self.assertIsNone(thick(rings))
        self.assertEqual(self.judge(6, rings, (rings[0] + swapped(rings[3])) * 4), "nothing")
        self.assertEqual(self.judge(6, rings, "a" * 1000), "none")
        self.assertEqual(self.judge(6, GENUS_TWO, RING * 125), "nothing")
        self.assertEqual(self.judge(6, (), "aA" * 500), "nothing")
        self.assertEqual(self.judge(6, (), "aA" * 1000), "nothing")


class Whole(JudgingTest):
    """Point 5, its first item."""

    def made_of_turns(self, chance, rings, count):
        """Turns, each turned about by a word, one behind the other."""
        word = ""
        turns = sorted(all_turns(rings)) or [""]
        for number in range(count):
            by = picked_word(chance, 6, chance.randrange(8))
            word += by + chance.choice(turns) + swapped(by)
        return word

    def test_made_of_turns_in_whatever_order(self):
        chance = chance_of(5)
        for rings in THIN_RINGS:
            for count in (1, 2, 3, 5):
                for reduce in (True, False):
                    word = self.made_of_turns(chance, rings, count)
                    word = cancelled(word) if reduce else word
                    self.assertEqual(self.judge(6, rings, word), "nothing")
                    self.assertEqual(self.shortened_by_chance(chance, rings, word), "")

    def shortened_by_chance(self, chance, rings, word):
        while True:
            steps = shortening_steps(rings, word)
            if not steps:
                return word
            word = walked(rings, word, (chance.choice(steps),))

    def test_other_words_never_become_nothing(self):
        chance = chance_of(50)
        for rings in THIN_RINGS:
            for pick in range(10):
                word = cancelled(self.made_of_turns(chance, rings, 2)) + picked_word(chance, 6, chance.randrange(1, 4))
                kind = self.judge(6, rings, word)
                for order in range(2):
                    self.assertEqual(self.shortened_by_chance(chance, rings, word) == "", kind == "nothing")

    def test_steps_that_do_not_shorten_change_no_judgement(self):
        chance = chance_of(51)
        for rings in (GENUS_TWO, THIN_PAIR, ("aaaa",)):
            turns = sorted(all_turns(rings))
            for first in ("", "abAB", "aa", RING):
                word = first
                for number in range(12):
                    turn = chance.choice(turns)
                    place = chance.randrange(len(word) + 1)
                    step = chance.choice((("in", place, chance.choice("abcdefABCDEF")), ("ring", place, turn, 0)))
                    word = walked(rings, word, [step])
                    self.assertEqual(self.judge(6, rings, word), self.judge(6, rings, first))

    def test_nothing_keeps_each_seat_of_tables_that_fit(self):
        chance = chance_of(52)
        for pick in range(20):
            seats = chance.choice((2, 3, 5, 8))
            one, other = [tuple(chance.sample(range(seats), seats)) for number in range(2)]
            table = (one, other, other, one, one, other)
            self.assertIsNone(unkept(GENUS_TWO, table))
            word = cancelled(self.made_of_turns(chance, GENUS_TWO, 3))
            self.assertEqual(self.judge(6, GENUS_TWO, word), "nothing")
            self.assertEqual([led(table, seat, word) for seat in range(seats)], list(range(seats)))

    def test_words_that_a_table_shows_to_be_none(self):
        chance = chance_of(53)
        seen = 0
        for pick in range(60):
            one, other = [tuple(chance.sample(range(5), 5)) for number in range(2)]
            table = (one, other, other, one)
            word = picked_word(chance, 4, 12)
            for seat in range(5):
                if led(table, seat, word) != seat:
                    self.assertIs(lets_none(4, GENUS_TWO, word, ("seats", table, seat)), True)
                    self.assertEqual(self.judge(4, GENUS_TWO, word), "none")
                    seen += 1
        self.assertTrue(seen)

    def test_powers_and_products_told_here(self):
        word = power("abABc", 20)
        self.assertEqual(self.judge(4, GENUS_TWO, word), "none")
        self.assertEqual(self.judge(4, GENUS_TWO, power(RING, 20)), "nothing")
        self.assertEqual(self.judge(4, GENUS_TWO, times(word, power(RING, -20))), "none")

    def test_nothing_told_hangs_on_what_was_asked_before(self):
        first = judged(GENUS_TWO, RING)
        halves(GENUS_TWO).clear()
        judged((), "ab")
        judged(("aaaa",), "aa")
        self.assertEqual(judged(GENUS_TWO, RING)[0], first[0])
        self.assertEqual(self.judge(4, GENUS_TWO, RING), "nothing")


if __name__ == "__main__":
    unittest.main()
