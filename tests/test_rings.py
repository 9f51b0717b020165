import unittest

from ringwords.rings import is_rings, thick, turns_of
from tests.helpers import GENUS_TWO, ODD_THINGS, THIN_RINGS, all_turns, chance_of, nested, picked_round


def shared(one, other):
    """The longest beginning that both have."""
    size = 0
    while size < min(len(one), len(other)) and one[size] == other[size]:
        size += 1
    return one[:size]


def sought(rings):
    """The first witness by the words of point 13, or None."""
    told = all_turns(rings)
    found = [(turn, other, shared(turn, other)) for turn in told for other in told if turn != other]
    found = [one for one in found if 6 * len(one[2]) >= len(one[0])]
    return min(found) if found else None


class Kinds(unittest.TestCase):
    def test_rings(self):
        for rings in THIN_RINGS + [("abAB",), ("a", "a"), ("a", "A"), ("F", "f"), ("a",) * 6, ("ab" * 60,),
                                   ("a" * 120,) * 6, ("abABcdCDefEF",)]:
            self.assertIs(is_rings(rings), True, rings)

    def test_too_many_or_too_long(self):
        self.assertIs(is_rings(("a",) * 7), False)
        self.assertIs(is_rings(("a" * 121,)), False)
        self.assertIs(is_rings(("a", "ab" * 60 + "a")), False)

    def test_words_that_are_no_rings(self):
        for word in ("", "aA", "abA", "abBc", "abBA", "g", "a b", "a-", "?", "ab\n"):
            self.assertIs(is_rings((word,)), False, word)
            self.assertIs(is_rings(("ab", word)), False, word)
            self.assertIs(is_rings((word, "ab")), False, word)

    def test_other_kinds(self):
        for thing in ODD_THINGS + [nested(100), "a", "", ["a"], {"a": "b"}, {}, None]:
            self.assertIs(is_rings(thing), False, thing)
        for part in ODD_THINGS + [("a",), ["a"], nested(90)]:
            self.assertIs(is_rings((part,)), False, part)
            self.assertIs(is_rings(("a", part)), False, part)


class Turns(unittest.TestCase):
    def test_told_ones(self):
        self.assertEqual(turns_of(()), [])
        self.assertEqual(turns_of(("a",)), ["A", "a"])
        self.assertEqual(turns_of(("A", "a")), ["A", "a"])
        self.assertEqual(turns_of(("ab",)), ["AB", "BA", "ab", "ba"])
        self.assertEqual(turns_of(("aa",)), ["AA", "aa"])
        self.assertEqual(turns_of(("b", "ab")), ["AB", "B", "BA", "ab", "b", "ba"])

    def test_rising_each_once_all_of_them(self):
        for rings in THIN_RINGS + [("abAB",), ("ab", "ba", "BA"), ("aab", "aab"), ("aab", "BAA")]:
            told = turns_of(rings)
            self.assertIs(type(told), list)
            self.assertEqual(told, sorted(all_turns(rings)))
        self.assertEqual(len(turns_of(GENUS_TWO)), 16)

    def test_the_askers_own(self):
        rings = GENUS_TWO
        told = turns_of(rings)
        told.clear()
        self.assertEqual(len(turns_of(rings)), 16)
        self.assertIsNone(thick(rings))

    def test_six_rings_of_120_letters(self):
        chance = chance_of(13)
        rings = tuple(picked_round(chance, 6, 120) for number in range(6))
        self.assertIs(is_rings(rings), True)
        self.assertEqual(turns_of(rings), sorted(all_turns(rings)))
        self.assertIsNone(thick(rings))

    def test_a_long_piece_of_two_rings_among_six(self):
        chance = chance_of(131)
        rings = tuple(picked_round(chance, 5, 60) for number in range(6))
        piece = picked_round(chance, 5, 10)
        double = rings[:3] + (piece + "f" + rings[3], piece + "F" + rings[4], rings[5])
        self.assertIs(is_rings(double), True)
        self.assertIsNone(thick(double))
        rings = double[:3] + (double[3][:59] + "e", double[4][:59] + "f", double[5])
        self.assertIs(is_rings(rings), True)
        found = thick(rings)
        self.assertEqual(found, sought(rings))
        self.assertEqual((found[2], len(found[0])), (min(piece, piece[::-1].swapcase()), 60))


class Thick(unittest.TestCase):
    def test_thin(self):
        for rings in THIN_RINGS:
            self.assertIsNone(thick(rings), rings)
            self.assertIsNone(sought(rings), rings)

    def test_powers_of_a_letter_or_a_root_alone_are_thin(self):
        for rings in (("a",), ("aa",), ("a" * 120,), ("ab" * 60,), ("ab" * 60, "BA" * 60), ("a" * 7, "A" * 7)):
            self.assertIsNone(thick(rings), rings)

    def test_told_twice_or_with_its_back_stays_thin(self):
        for rings in (GENUS_TWO * 2, ("abABcdCD", "dcDCbaBA"), ("abABcdCD", "ABcdCDab"), ("aabbccd", "DCCBBAA")):
            self.assertIsNone(thick(rings), rings)

    def test_powers_of_two_lengths_are_thick(self):
        self.assertEqual(thick(("aa", "aaa")), ("AA", "AAA", "AA"))
        self.assertEqual(thick(("aaa", "aa")), ("AA", "AAA", "AA"))
        self.assertEqual(thick(("a", "aaaaaaaa")), ("A", "AAAAAAAA", "A"))

    def test_just_thick_and_just_thin(self):
        self.assertEqual(thick(("aabbcc",)), ("AACCBB", "ACCBBA", "A"))
        self.assertIsNone(thick(("aabbccd",)))
        twelve = "aaabcccdeeef"
        self.assertEqual(thick((twelve,)), sought((twelve,)))
        self.assertEqual(6 * len(thick((twelve,))[2]), len(twelve))
        self.assertIsNone(thick((twelve + "f",)))

    def test_thick_ones_told(self):
        self.assertEqual(thick(("abAB",)), ("ABab", "AbaB", "A"))
        self.assertIs(type(thick(("abAB",))), tuple)

    def test_a_short_ring_within_a_long_one(self):
        # The long one has pieces that are short for it, and long for the other one.
        rings = ("abABcdCD", "ae")
        self.assertEqual(thick(rings), sought(rings))
        self.assertEqual(thick(rings), ("AE", "ABcdCDab", "A"))
        self.assertEqual(thick(("ae", "abABcdCD")), ("AE", "ABcdCDab", "A"))

    def test_the_other_may_stand_behind_or_ahead(self):
        self.assertEqual(thick(("ab", "abbbbbbbbbbbbbbbbbbb")), sought(("ab", "abbbbbbbbbbbbbbbbbbb")))
        self.assertEqual(thick(("b", "bcccccccccccccccaaaa")), sought(("b", "bcccccccccccccccaaaa")))
        chance = chance_of(130)
        behind = ahead = 0
        for pick in range(400):
            lengths = [chance.choice((1, 2, 3, 5, 6, 7, 12, 13, 20)) for number in range(chance.choice((1, 2, 3)))]
            rings = tuple(picked_round(chance, chance.choice((2, 3, 6)), length) for length in lengths)
            found = thick(rings)
            self.assertEqual(found, sought(rings), rings)
            if found:
                behind += found[1] > found[0]
                ahead += found[1] < found[0]
        self.assertTrue(behind and ahead)


if __name__ == "__main__":
    unittest.main()
