import copy
import unittest

from ringwords.errors import NoPaper
from ringwords.letters import is_word
from ringwords.turning import commuting, lets_turning, turning
from tests.helpers import (
    ODD_THINGS, cancelled, chance_of, nested, picked_round, picked_way, picked_word, swapped, turned, words_up_to)


def raised(word, number):
    """The power of a word, told by other means than the program's."""
    return cancelled(word * number if number >= 0 else swapped(word) * -number)


def middle(word):
    """The middle of a word (12)."""
    word = cancelled(word)
    while word and word[0] == word[-1].swapcase():
        word = word[1:-1]
    return word


def least(word):
    """The least turn of a word's middle."""
    word = middle(word)
    return min([turned(word, place) for place in range(len(word))], default="")


class Commuting(unittest.TestCase):
    def look(self, one, other, wanted=None):
        told = commuting(one, other)
        commute = cancelled(one + other) == cancelled(other + one)
        if wanted is not None:
            self.assertIs(commute, wanted, (one, other))
        if not commute:
            self.assertIsNone(told, (one, other))
            return
        self.assertEqual([type(told), len(told)], [tuple, 3], (one, other))
        root, m, n = told
        self.assertIs(is_word(6, root), True)
        self.assertTrue(1 <= len(root) <= 200, told)
        for number in (m, n):
            self.assertIs(type(number), int)
            self.assertTrue(-20 <= number <= 20, told)
        self.assertEqual(raised(root, m), cancelled(one), (one, other, told))
        self.assertEqual(raised(root, n), cancelled(other), (one, other, told))

    def test_all_short_ones(self):
        for one in words_up_to(1, 5):
            for other in words_up_to(1, 5):
                self.look(one, other, True)
        for one in words_up_to(2, 3):
            for other in words_up_to(2, 4):
                self.look(one, other)

    def test_told_ones(self):
        for one, other in (("a", "b"), ("ab", "ba"), ("a", "ab"), ("ab", "aB"), ("abA", "b"), ("aab", "aba"), ("f", "e"),
                           ("abab", "baba"), ("aabaab", "abaaba"), ("abA", "aba"), ("a" * 19 + "b", "a" * 20)):
            self.look(one, other, False)
        for one, other in (("ab", "ab"), ("ab", "BA"), ("ab", "abab"), ("abab", "ababab"), ("aa", "aaa"), ("aa", "AAA"),
                           ("abA", "abbA"), ("abA", "aBBA"), ("abAB", "baBA"), ("ffff", "FF"), ("cdC", "cDDC")):
            self.look(one, other, True)
            self.look(other, one, True)

    def test_nothing_and_another(self):
        for nothing in ("", "aA", "abBA", "bBbB", "fFfF", "abcdefFEDCBA"):
            for other in ("", "aA", "cC", "a", "F", "aa", "abab", "abA", "abbA", "bBa", "A" * 20, "ab" * 10, "abcABC"):
                self.look(nothing, other, True)
                self.look(other, nothing, True)

    def test_powers_turned_about(self):
        for root in ("a", "B", "ab", "aB", "aab", "abAB", "f"):
            for by in ("", "b", "aB", "c", "ba", "Ab"):
                for m in range(-3, 4):
                    for n in range(-3, 4):
                        one = cancelled(by + raised(root, m) + swapped(by))
                        other = cancelled(by + raised(root, n) + swapped(by))
                        self.look(one, other, True)

    def test_powers_turned_about_unlike(self):
        for root in ("a", "ab", "aab"):
            for by in ("b", "c", "bb"):
                for m in range(-3, 4):
                    for n in range(-3, 4):
                        self.look(raised(root, m), by + raised(root, n) + swapped(by), m == 0 or n == 0)

    def test_not_reduced(self):
        for one, other in (("aAab", "abBb"), ("abBA" + "ab", "ba" + "AB" + "abab"), ("aaA", "Aaa"), ("abBab", "cCaab")):
            self.look(one, other)
        self.look("abBabbBB", "aa", True)
        self.look("abBa", "bBaaa", True)
        self.look("cabBAC", "cabbBBAC", True)

    def test_of_20_letters(self):
        for one, other in (("a" * 20, "a" * 20), ("a" * 20, "A" * 20), ("a" * 20, "a" * 19), ("A" * 17, "a" * 20),
                           ("ab" * 10, "BA" * 10), ("ab" * 10, "ab" * 9), ("aabb" * 5, "BBAA" * 4), ("a" * 20, "a"),
                           ("abcdefabcdefabcdef", "FEDCBAFEDCBA"), ("b" + "a" * 18 + "B", "b" + "A" * 17 + "B"),
                           ("a" * 9 + "b" + "A" * 9, "a" * 9 + "BB" + "A" * 9), ("aabbaabbaa" * 2, "aabbaabbaa")):
            self.look(one, other, True)
            self.look(other, one, True)
        self.look("a" * 20, "b" * 20, False)
        self.look("ab" * 10, "ba" * 10, False)

    def test_picked_ones(self):
        chance = chance_of(22)
        for turn in range(300):
            many = chance.randint(1, 6)
            self.look(picked_word(chance, many, chance.randint(0, 20)), picked_word(chance, many, chance.randint(0, 20)))
            word = picked_word(chance, many, 5)
            self.look(word * chance.randint(0, 4), (swapped(word) if turn % 2 else word) * chance.randint(0, 4), True)


class PaperTest(unittest.TestCase):
    def refused(self, word, at, one, other, thing):
        kept = copy.deepcopy(thing)
        with self.assertRaises(NoPaper) as caught:
            lets_turning(one, other, thing)
        self.assertEqual((caught.exception.word, caught.exception.at), (word, at), (one, other, thing))
        self.assertEqual([type(caught.exception.word), type(caught.exception.at)], [str, int])
        self.assertEqual(repr(thing), repr(kept))

    def let_by(self, one, other, thing):
        self.assertIs(lets_turning(one, other, thing), True, (one, other, thing))


class Checker(PaperTest):
    def test_alike_let_by(self):
        for one, other, by in (("", "", ""), ("", "", "abc"), ("a", "a", ""), ("a", "a", "a"), ("a", "a", "AAA"),
                               ("ab", "ba", "A"), ("ab", "ba", "b"), ("a", "baB", "b"), ("baB", "a", "B"), ("aA", "bB", "f"),
                               ("aab", "aba", "A"), ("cabC", "ba", "AC"), ("aAb", "b", ""), ("f", "efE", "e")):
            self.assertEqual(cancelled(by + one + swapped(by)), cancelled(other))
            self.let_by(one, other, ("alike", by))

    def test_a_by_that_is_not_reduced(self):
        self.let_by("ab", "ba", ("alike", "bBA"))
        self.let_by("ab", "ba", ("alike", "AaA"))
        self.let_by("a", "a", ("alike", "bB"))
        self.let_by("a", "baB", ("alike", "baA"))
        self.let_by("", "", ("alike", "aA" * 100))
        self.refused("by", 0, "a", "baB", ("alike", "bB"))

    def test_unlike_let_by(self):
        for one, other in (("a", "b"), ("a", "A"), ("", "a"), ("a", ""), ("ab", "aB"), ("ab", "BA"), ("aab", "abb"),
                           ("a", "aa"), ("cabC", "dcD"), ("bBa", "aab"), ("abAB", "baBA"), ("aA", "fbF")):
            self.let_by(one, other, ("unlike", least(one), least(other)))

    def test_by(self):
        for one, other, by in (("a", "b", ""), ("a", "b", "ab"), ("a", "a", "b"), ("ab", "ba", ""), ("ab", "ba", "a"),
                               ("ab", "ba", "B"), ("a", "baB", "B"), ("a", "A", ""), ("", "a", ""), ("a", "", "b"),
                               ("ab", "BA", "ab"), ("a", "aa", "a")):
            self.refused("by", 0, one, other, ("alike", by))

    def test_turn(self):
        self.refused("turn", 0, "ab", "b", ("unlike", "ba", "b"))
        self.refused("turn", 0, "ba", "b", ("unlike", "ba", "b"))
        self.refused("turn", 0, "ab", "b", ("unlike", "", "b"))
        self.refused("turn", 0, "cabC", "b", ("unlike", "cabC", "b"))
        self.refused("turn", 0, "abAB", "b", ("unlike", "aBAb", "b"))
        self.refused("turn", 1, "b", "ba", ("unlike", "b", "ba"))
        self.refused("turn", 1, "b", "aab", ("unlike", "b", "aba"))
        self.refused("turn", 1, "b", "cC", ("unlike", "b", "cC"))
        self.refused("turn", 1, "b", "aA", ("unlike", "b", "a"))
        self.refused("turn", 2, "ab", "ba", ("unlike", "ab", "ab"))
        self.refused("turn", 2, "", "", ("unlike", "", ""))
        self.refused("turn", 2, "aA", "bB", ("unlike", "", ""))
        self.refused("turn", 2, "a", "baB", ("unlike", "a", "a"))

    def test_least_as_python_sorts_texts(self):
        self.let_by("aB", "b", ("unlike", "Ba", "b"))
        self.refused("turn", 0, "aB", "b", ("unlike", "aB", "b"))
        self.let_by("b", "abAB", ("unlike", "b", "ABab"))

    def test_the_first_that_is_due(self):
        self.refused("turn", 0, "ab", "ab", ("unlike", "ba", "ba"))
        self.refused("turn", 0, "ab", "cd", ("unlike", "ba", "dc"))
        self.refused("turn", 0, "ab", "cd", ("unlike", "cd", "cd"))
        self.refused("turn", 0, "ab", "cd", ("unlike", "cd", "ab"))
        self.refused("turn", 1, "ab", "cd", ("unlike", "ab", "ab"))
        self.refused("turn", 1, "ab", "ab", ("unlike", "ab", "ba"))
        self.refused("shape", 0, "ab", "ab", ("unlike", "ba", "b a"))
        self.refused("shape", 0, "ab", "ab", ("unlike", "g", "ba"))
        self.refused("shape", 0, "a", "b", ("alike", "g"))

    def test_a_word_that_is_not_reduced_is_a_word(self):
        self.refused("turn", 0, "ab", "b", ("unlike", "abbB", "b"))
        self.refused("turn", 1, "b", "ab", ("unlike", "b", "aAab"))
        self.refused("turn", 0, "aAab", "b", ("unlike", "aAab", "b"))
        self.refused("by", 0, "a", "b", ("alike", "aAbB"))

    def test_words_that_are_not_reduced(self):
        self.let_by("aAab", "bBba", ("alike", "b"))
        self.let_by("aAab", "bBb", ("unlike", "ab", "b"))

    def test_shape(self):
        good = ("alike", "b")
        also = ("unlike", "a", "b")
        wrong = [
            list(good), list(also), good + ("",), good + (0,), also + ("",), good[:1], also[:2], also[:1], (), ("alike",),
            ("Alike", "b"), ("alike ", "b"), ("unlike", "b"), ("alike", "a", "b"), ("Unlike", "a", "b"), ("same", "a", "b"),
            ("", "b"), (None, "b"), (True, "b"), (0, "b"), ("b", "alike"), ("a", "b", "unlike"), {"alike": "b"}, {},
            "alike b", "alike", "", None, True, False, 0, 1, (good,), [good], (("alike",), "b"), (["alike"], "b"),
        ]
        for thing in wrong:
            self.refused("shape", 0, "ab", "ba", thing)
            self.refused("shape", 0, "a", "b", thing)
        for part in [None, True, False, 0, 1, -1, 10 ** 39, [], ["b"], (), ("b",), {}, {"b": "b"}, "g", "G", " ", "a b",
                     "ab ", " ab", "-", "a1", "h", "aZ", "ab\\", "?", nested(95)]:
            self.refused("shape", 0, "ab", "ba", ("alike", part))
            self.refused("shape", 0, "ab", "b", ("unlike", part, "b"))
            self.refused("shape", 0, "ab", "b", ("unlike", "ab", part))

    def test_any_plain_thing(self):
        for thing in ODD_THINGS + [nested(100), nested(3)]:
            self.refused("shape", 0, "ab", "ba", thing)
            self.refused("shape", 0, "", "", thing)
            self.refused("shape", 0, "a", "b", (thing, "b"))
            self.refused("shape", 0, "a", "b", (thing, "a", "b"))
            self.refused("shape", 0, "a", "b", (thing, thing))
            self.refused("shape", 0, "a", "b", ("alike", thing))


class Turning(PaperTest):
    def look(self, one, other):
        told = turning(one, other)
        self.assertIs(type(told), tuple)
        self.let_by(one, other, told)
        if least(one) == least(other):
            self.assertEqual([told[0], len(told)], ["alike", 2], (one, other))
            self.assertEqual(cancelled(told[1] + one + swapped(told[1])), cancelled(other))
            self.refused("turn", 2, one, other, ("unlike", least(one), least(other)))
        else:
            self.assertEqual(told, ("unlike", least(one), least(other)))
            for by in ("", "a", "B", "ab", cancelled(one), cancelled(other), cancelled(other + one)):
                self.refused("by", 0, one, other, ("alike", by))
        return told[0]

    def test_all_short_ones(self):
        for one in words_up_to(2, 3):
            for other in words_up_to(2, 3):
                told = self.look(one, other)
                # Whatever turns one of them into the other has no more letters than both together.
                if told == "unlike" and len(one + other) < 5:
                    for by in words_up_to(2, 3):
                        self.refused("by", 0, one, other, ("alike", by))

    def test_nothing(self):
        for one, other in (("", ""), ("aA", ""), ("", "bB"), ("abBA", "cC")):
            self.assertEqual(self.look(one, other), "alike")
        for one, other in (("", "a"), ("a", ""), ("aA", "b"), ("aba", "bB")):
            self.assertEqual(self.look(one, other), "unlike")

    def test_a_word_and_its_back(self):
        chance = chance_of(23)
        for turn in range(60):
            word = picked_round(chance, chance.randint(1, 6), chance.randint(1, 30))
            self.assertEqual(self.look(word, swapped(word)), "unlike")

    def test_turns(self):
        for word in ("ab", "aab", "abAB", "abab", "aabaab", "abcdef", "aaab", "abABcdCD"):
            for place in range(len(word)):
                self.assertEqual(self.look(word, turned(word, place)), "alike")
                self.assertEqual(self.look(turned(word, place), word), "alike")

    def test_powers(self):
        self.assertEqual(self.look("ab", "abab"), "unlike")
        self.assertEqual(self.look("baba", "abab"), "alike")
        self.assertEqual(self.look("caabaC", "aabaab"), "unlike")

    def test_alike_by_a_long_word(self):
        chance = chance_of(230)
        for turn in range(80):
            many = chance.randint(1, 6)
            by = picked_word(chance, many, chance.randint(0, 90))
            one = picked_round(chance, many, chance.randint(1, 20))
            other = by + turned(one, chance.randrange(len(one))) + swapped(by)
            self.assertEqual(self.look(one, other), "alike")
            self.assertEqual(self.look(other, one), "alike")
            self.assertEqual(self.look(other, other), "alike")

    def test_both_turned_about(self):
        chance = chance_of(231)
        for turn in range(60):
            word = picked_way(chance, 3, chance.randint(2, 8))
            one, other = picked_word(chance, 3, 12), picked_word(chance, 4, 9)
            self.look(one + word + swapped(one), other + turned(word, 1) + swapped(other))
            self.look(one + word + swapped(one), other + swapped(word) + swapped(other))

    def test_picked_ones(self):
        chance = chance_of(232)
        for turn in range(150):
            many = chance.randint(1, 6)
            self.look(picked_word(chance, many, chance.randint(0, 12)), picked_word(chance, many, chance.randint(0, 12)))

    def test_great_ones(self):
        chance = chance_of(233)
        by = picked_word(chance, 6, 300)
        word = picked_round(chance, 6, 200)
        self.assertEqual(self.look(word, by + turned(word, 77) + swapped(by)), "alike")
        self.assertEqual(self.look(by + word + swapped(by), turned(word, 199)), "alike")
        self.assertEqual(self.look(by + word + swapped(by), word + word[-1]), "unlike")


if __name__ == "__main__":
    unittest.main()
