import copy
import itertools
import unittest

from ringwords.holes import handles, holes
from ringwords.surfaces import are_ways, is_surface, is_way
from tests.helpers import (
    BIG, LETTERS, ODD_THINGS, all_surfaces, cancelled, chance_of, is_root, nested, picked_surface, picked_way, turned,
    words_up_to)

NO_TEXTS = [
    0, 1, -1, 10 ** 39, True, False, None, [], (), {}, ["a", "A"], ("a", "A"), {"a": "A"}, ["aA"], ("aA",), {"aA": "aA"},
    nested(100), nested(1), (("a",),), [["aA"]],
]


class Surfaces(unittest.TestCase):
    def test_all_of_few_letters(self):
        for many in (1, 2, 3):
            for surface in all_surfaces(many):
                self.assertIs(is_surface(surface), True, surface)

    def test_of_one_to_six_letters(self):
        chance = chance_of(30)
        for many in range(1, 7):
            for turn in range(20):
                self.assertIs(is_surface(picked_surface(chance, many)), True)
        for surface in ("aA", "Aa", "abAB", "aAbBcCdDeEfF", "abABcdCDefEF", "fFeEdDcCbBaA", "FEDCBAabcdef"):
            self.assertIs(is_surface(surface), True)

    def test_all_short_texts(self):
        for length in range(5):
            for signs in itertools.product("abcAB", repeat=length):
                text = "".join(signs)
                wanted = sorted(text) in (["A", "a"], ["A", "B", "a", "b"])
                self.assertIs(is_surface(text), wanted, text)

    def test_a_letter_bent(self):
        chance = chance_of(300)
        for many in range(1, 7):
            for turn in range(10):
                surface = picked_surface(chance, many)
                for place in range(2 * many):
                    self.assertIs(is_surface(surface[:place] + surface[place + 1:]), False)
                    for sign in LETTERS + BIG + "gG -?0":
                        bent = surface[:place] + sign + surface[place + 1:]
                        self.assertIs(is_surface(bent), bent == surface, bent)
                        self.assertIs(is_surface(surface[:place] + sign + surface[place:]), False)

    def test_a_letter_left_out_twice_or_beyond(self):
        for text in ("", "a", "A", "aa", "AA", "bB", "cC", "gG", "abA", "aAb", "aAB", "aAa", "aAaA", "aAcC", "aaAA", "abab",
                     "aAbBc", "aAbBdD", "aAfF", "abABaA", "abcABCabcABC", "aAbBcCdDeEgG", "aAbBcCdDeEeE"):
            self.assertIs(is_surface(text), False, text)

    def test_too_long(self):
        for text in ("aAbBcCdDeEfFgG", "abcdefgABCDEFG", "aAbBcCdDeEfFaA", "aAbBcCdDeEfFf", "aAbBcCdDeEf", "aA" * 6,
                     "aA" * 10000, "abcdefABCDEF" * 2):
            self.assertIs(is_surface(text), False, text)

    def test_blanks_and_other_signs(self):
        for text in (" ", "aA ", " aA", "a A", "aAbB ", "aA\\", "-", "a-", "1A", "aA1", "a_", "aA,", "~A", "  ", "aA  ", "??"):
            self.assertIs(is_surface(text), False, text)

    def test_other_kinds(self):
        for thing in NO_TEXTS + ODD_THINGS:
            kept = copy.deepcopy(thing)
            self.assertIs(is_surface(thing), False, thing)
            self.assertEqual(repr(thing), repr(kept))


class Ways(unittest.TestCase):
    def test_all_short_ones(self):
        for surface in ("aA", "Aa", "abAB", "aAbB", "bBAa"):
            many = len(surface) // 2
            for word in words_up_to(3, 5):
                wanted = is_root(word) and not set(word.lower()) - set(LETTERS[:many])
                self.assertIs(is_way(surface, word), wanted, (surface, word))

    def test_told_ones(self):
        for word in ("a", "A", "ab", "aB", "abAB", "aab", "BA", "aabab", "abaabb"):
            self.assertIs(is_way("abAB", word), True, word)
        for word in ("", "aA", "aAb", "abA", "abbA", "abBa", "aa", "AAA", "abab", "aabaab", "BABA", "abABabAB", "c", "abC", "g",
                     "a b", " a", "a ", "-", "ab?", "aabA"):
            self.assertIs(is_way("abAB", word), False, word)

    def test_letters_beyond_the_surface(self):
        chance = chance_of(301)
        for many in range(1, 7):
            surface = picked_surface(chance, many)
            for number, letter in enumerate(LETTERS):
                self.assertIs(is_way(surface, letter), number < many)
                self.assertIs(is_way(surface, letter.upper()), number < many)
                self.assertIs(is_way(surface, letter + "a"), 0 < number < many)

    def test_30_letters_and_31(self):
        chance = chance_of(302)
        for many in range(2, 7):
            surface = picked_surface(chance, many)
            for length in (1, 2, 29, 30):
                self.assertIs(is_way(surface, picked_way(chance, many, length)), True)
            for length in (31, 32, 60, 200):
                self.assertIs(is_way(surface, picked_way(chance, many, length)), False)
        self.assertIs(is_way("abAB", "a" * 29 + "b"), True)
        self.assertIs(is_way("abAB", "a" * 30 + "b"), False)
        self.assertIs(is_way("abAB", "a" * 30), False)
        self.assertIs(is_way("abAB", ("a" * 14 + "b") * 2), False)
        self.assertIs(is_way("abAB", "ab" * 15), False)
        self.assertIs(is_way("abAB", "ab" * 14 + "aB"), True)
        self.assertIs(is_way("aA", "a" * 30), False)
        self.assertIs(is_way("aA", "a"), True)

    def test_powers_of_a_shorter_word(self):
        chance = chance_of(303)
        for turn in range(60):
            many = chance.randint(2, 6)
            surface = picked_surface(chance, many)
            word = picked_way(chance, many, chance.randint(1, 6))
            for times in range(1, 30 // len(word) + 1):
                self.assertIs(is_way(surface, word * times), times == 1, word * times)
                self.assertIs(is_way(surface, turned(word * times, 1)), times == 1, word * times)

    def test_other_kinds(self):
        for surface in ("aA", "abAB", "aAbBcCdDeEfF"):
            for thing in NO_TEXTS + ODD_THINGS:
                kept = copy.deepcopy(thing)
                self.assertIs(is_way(surface, thing), False, thing)
                self.assertEqual(repr(thing), repr(kept))


class TuplesOfWays(unittest.TestCase):
    def test_how_many(self):
        for surface in ("aA", "abAB", "aAbBcCdDeEfF"):
            for count in range(9):
                self.assertIs(are_ways(surface, ("a",) * count), 1 <= count <= 4)
                self.assertIs(are_ways(surface, ("a", "A") * count), 1 <= count <= 2)

    def test_told_ones(self):
        for thing in (("a",), ("ab", "b"), ("ab", "ba", "BA"), ("a", "b", "ab", "abAB"), ("a", "a", "a", "a")):
            self.assertIs(are_ways("abAB", thing), True, thing)
            self.assertIs(are_ways("abAB", list(thing)), False, thing)
            self.assertIs(are_ways("aA", thing), set("".join(thing)) == {"a"}, thing)

    def test_one_that_is_no_way(self):
        for wrong in ["", "aA", "aa", "abA", "c", "g", " ", "a" * 30 + "b", None, True, False, 0, 1, ("a",), ["a"], [], (), {},
                      nested(90)]:
            for count in range(4):
                for place in range(count + 1):
                    thing = ("ab",) * place + (wrong,) + ("b",) * (count - place)
                    self.assertIs(are_ways("abAB", thing), False, thing)

    def test_60_letters_in_all_and_61(self):
        chance = chance_of(304)
        for lengths, wanted in (((30, 30), True), ((30, 29, 1), True), ((15, 15, 15, 15), True), ((30, 28, 1, 1), True),
                                ((30, 30, 1), False), ((30, 29, 2), False), ((16, 15, 15, 15), False), ((29, 29, 2), True),
                                ((20, 20, 20, 1), False), ((20, 20, 20), True), ((30, 30, 30, 30), False), ((31,), False),
                                ((30, 31), False), ((1, 30, 30), False), ((1, 1, 1, 58), False)):
            for many in range(2, 7):
                surface = picked_surface(chance, many)
                thing = tuple(picked_way(chance, many, length) for length in lengths)
                self.assertIs(are_ways(surface, thing), wanted, thing)

    def test_other_kinds(self):
        for thing in NO_TEXTS[:10] + ["a", "ab", "", {"a": "b"}, {"ab": 1}, ["ab"], ["ab", "b"], [("ab",)], (("ab",),), ("a b",)]:
            kept = copy.deepcopy(thing)
            self.assertIs(are_ways("abAB", thing), False, thing)
            self.assertEqual(repr(thing), repr(kept))
        for thing in ODD_THINGS + [nested(100)]:
            self.assertIs(are_ways("abAB", thing), False, thing)
            self.assertIs(are_ways("abAB", (thing,)), False, thing)


def walked_holes(surface):
    """The holes, by the words of point 30: all rounds of gaps first, then told in order."""
    ends = len(surface)
    onward = {gap: surface.index(surface[(gap + 1) % ends].swapcase()) for gap in range(ends)}
    rounds = set()
    for gap in range(ends):
        row = [gap]
        while onward[row[-1]] != gap:
            row.append(onward[row[-1]])
        first = row.index(min(row))
        rounds.add(tuple(row[first:] + row[:first]))
    return ["".join(surface[(gap + 1) % ends] for gap in row) for row in sorted(rounds)]


class Holes(unittest.TestCase):
    def look(self, surface):
        told = holes(surface)
        self.assertIs(type(told), list)
        self.assertEqual(told, walked_holes(surface), surface)
        self.assertEqual(sorted("".join(told)), sorted(surface))
        for word in told:
            self.assertIs(type(word), str)
            self.assertEqual(cancelled(word + word), word + word)
        many = len(surface) // 2
        self.assertIs(type(handles(surface)), int)
        self.assertGreaterEqual(handles(surface), 0)
        self.assertEqual(2 * handles(surface) + len(told), 1 + many)

    def test_told_ones(self):
        for surface, wanted, number in (
                ("aA", ["A", "a"], 0), ("Aa", ["a", "A"], 0), ("abAB", ["baBA"], 1), ("aBAb", ["BabA"], 1),
                ("aAbB", ["A", "ba", "B"], 0), ("abBA", ["bA", "B", "a"], 0), ("abABcdCD", ["bcDCdaBA"], 2)):
            self.assertEqual(holes(surface), wanted, surface)
            self.assertEqual(handles(surface), number, surface)

    def test_all_of_few_letters(self):
        for many in (1, 2, 3):
            for surface in all_surfaces(many):
                self.look(surface)

    def test_of_four_to_six_letters(self):
        chance = chance_of(305)
        counts = set()
        for many in (4, 5, 6):
            for turn in range(150):
                surface = picked_surface(chance, many)
                self.look(surface)
                counts.add((many, len(holes(surface))))
        self.assertTrue({(4, 1), (4, 3), (5, 2), (5, 4), (6, 1), (6, 3), (6, 5)} <= counts)

    def test_as_many_holes_as_can_be(self):
        for many in range(1, 7):
            surface = "".join(letter + letter.upper() for letter in LETTERS[:many])
            self.look(surface)
            self.assertEqual(len(holes(surface)), many + 1)
            self.assertEqual(handles(surface), 0)

    def test_one_hole(self):
        for surface, number in (("abAB", 1), ("abABcdCD", 2), ("abcdABCD", 2), ("abABcdCDefEF", 3), ("abcdefABCDEF", 3)):
            self.look(surface)
            self.assertEqual(len(holes(surface)), 1)
            self.assertEqual(handles(surface), number)

    def test_told_lists_are_the_askers_own(self):
        for surface in ("aA", "abAB", "aAbBcC", "abABcdCDeEfF"):
            kept = walked_holes(surface)
            told = holes(surface)
            told.append("a")
            told[0] = ""
            self.assertEqual(holes(surface), kept)
            holes(surface).clear()
            self.assertEqual(holes(surface), kept)
            self.assertEqual(2 * handles(surface), 1 + len(surface) // 2 - len(kept))


if __name__ == "__main__":
    unittest.main()
