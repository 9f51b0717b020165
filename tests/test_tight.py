import itertools
import unittest

from ringwords.drawings import crossed, is_drawing
from ringwords.links import links
from ringwords.tight import tight
from tests.helpers import (
    LETTERS, all_drawings, all_surfaces, chance_of, drawn_crossings, is_root, picked_case, picked_surface, picked_way,
    picked_ways, swapped, turned, words_up_to)


def counted(surface, ways, drawing):
    """For each two ways, and each one itself, how often they cross in the drawing."""
    pairs = [(one[0], other[0]) for one, other in drawn_crossings(surface, ways, drawing)]
    return {(i, j): pairs.count((i, j)) for i in range(len(ways)) for j in range(i, len(ways))}


class TightTest(unittest.TestCase):
    def look(self, surface, ways):
        told = tight(surface, ways)
        self.assertIs(type(told), tuple)
        self.assertEqual({type(order) for order in told}, {tuple})
        self.assertIs(is_drawing(surface, ways, told), True, (surface, ways, told))
        found = counted(surface, ways, told)
        for i, j in found:
            self.assertEqual(found[(i, j)], len(links(surface, ways, i, j)), (surface, ways, i, j, told))
        return found

    def look_at_all_drawings(self, surface, ways):
        found = self.look(surface, ways)
        for drawing in all_drawings(surface, ways):
            other = counted(surface, ways, drawing)
            for pair in found:
                self.assertGreaterEqual(other[pair], found[pair], (surface, ways, drawing, pair))


class Tight(TightTest):
    def test_told_ones(self):
        self.assertEqual(tight("aA", ("a",)), (((0, 0),),))
        self.assertEqual(tight("aA", ("A",)), (((0, 0),),))
        self.assertEqual(tight("abAB", ("ab",)), (((0, 0),), ((0, 1),)))
        self.assertEqual(tight("abcABC", ("Bc",)), ((), ((0, 0),), ((0, 1),)))
        self.assertEqual(self.look("abAB", ("a", "b")), {(0, 0): 0, (0, 1): 1, (1, 1): 0})
        self.assertEqual(self.look("aAbB", ("a", "b")), {(0, 0): 0, (0, 1): 0, (1, 1): 0})
        self.assertEqual(self.look("aAbB", ("ab", "aB")), {(0, 0): 0, (0, 1): 0, (1, 1): 1})
        self.assertEqual(self.look("abAB", ("aab", "abb")), {(0, 0): 0, (0, 1): 3, (1, 1): 0})
        self.assertEqual(self.look("abAB", ("abAB",)), {(0, 0): 0})

    def test_crossed_says_so_too(self):
        for surface, ways in (("abAB", ("aab", "abb", "a")), ("aAbB", ("abAB", "aB")), ("abcABC", ("abC", "cB", "abC"))):
            told = tight(surface, ways)
            for i, j in itertools.product(range(len(ways)), repeat=2):
                self.assertEqual(crossed(surface, ways, told, i, j), len(links(surface, ways, min(i, j), max(i, j))))

    def test_one_letter(self):
        for surface in ("aA", "Aa"):
            for count in range(1, 5):
                for ways in itertools.product("aA", repeat=count):
                    self.assertEqual(set(self.look(surface, ways).values()), {0})

    def test_all_short_ways_alone(self):
        for word in words_up_to(2, 6)[::3]:
            if is_root(word):
                for surface in ("abAB", "aAbB"):
                    self.look(surface, (word,))

    def test_all_short_ways_by_two(self):
        roots = [word for word in words_up_to(2, 4) if is_root(word)]
        for one in roots[::3]:
            for other in roots[::4]:
                for surface in ("abAB", "BaAb"):
                    self.look(surface, (one, other))

    def test_all_small_surfaces(self):
        for surface in all_surfaces(2):
            for ways in (("aabAB",), ("aab", "abb", "aB", "b"), ("aBBab", "aabAbb"), ("abAB", "BAba", "abAB")):
                self.look(surface, ways)
        for surface in all_surfaces(3)[::5]:
            self.look(surface, ("abC", "ccAb", "BaC"))

    def test_picked_ones(self):
        chance = chance_of(35)
        seen = set()
        for turn in range(250):
            surface, ways = picked_case(chance, 36)
            self.look(surface, ways)
            seen.add((len(surface) // 2, len(ways)))
        self.assertEqual(seen, set(itertools.product(range(1, 7), range(1, 5))))

    def test_few_letters_and_many_strands(self):
        chance = chance_of(350)
        for turn in range(40):
            self.look(picked_surface(chance, 2), picked_ways(chance, 2, chance.randint(1, 4), 10))

    def test_as_long_as_can_be(self):
        chance = chance_of(351)
        for turn in range(6):
            surface, ways = picked_case(chance, 60)
            self.look(surface, ways)
        for many in (2, 3, 6):
            self.look(picked_surface(chance, many), (picked_way(chance, many, 30), picked_way(chance, many, 30)))
            self.look(picked_surface(chance, many), tuple(picked_way(chance, many, 15) for number in range(4)))


class Alike(TightTest):
    def test_the_same_way_again_and_again(self):
        chance = chance_of(352)
        for turn in range(60):
            many = chance.randint(2, 6)
            surface = picked_surface(chance, many)
            word = picked_way(chance, many, chance.randint(1, 9))
            own = self.look(surface, (word,))[(0, 0)]
            for count in (2, 3, 4):
                kin = [turned(word, chance.randrange(len(word))) for number in range(count - 1)]
                ways = (word,) + tuple(chance.choice((other, swapped(other))) for other in kin)
                found = self.look(surface, ways)
                for i, j in found:
                    self.assertEqual(found[(i, j)], own if i == j else 2 * own, (surface, ways, i, j))

    def test_a_way_twice_turned_and_back(self):
        for word in ("ab", "aB", "aab", "abAB", "aabAB", "abaab", "aabbAB"):
            for surface in ("abAB", "aAbB", "bABa"):
                for place in range(len(word)):
                    self.look(surface, (word, turned(word, place)))
                    self.look(surface, (turned(swapped(word), place), word))
                    self.look(surface, (word, turned(swapped(word), place), "a", word))

    def test_30_letters_that_go_alike_for_long(self):
        long = "a" * 29 + "b"
        for other in (long, turned(long, 13), swapped(long), "a" * 28 + "bb", "a" * 28 + "B", "B" + "A" * 28 + "B"):
            for surface in ("abAB", "aAbB"):
                self.look(surface, (long, other))
        chance = chance_of(353)
        for turn in range(4):
            many = chance.randint(2, 6)
            surface = picked_surface(chance, many)
            word = picked_way(chance, many, 30)
            place = chance.randrange(1, 29)
            letter = chance.choice([sign for sign in LETTERS[:many] if sign not in (word[place - 1:place + 2]).lower()] or "a")
            other = word[:place] + letter + word[place + 1:]
            self.look(surface, (word, turned(swapped(word), 7)))
            if is_root(other):
                self.look(surface, (word, turned(other, 5)))

    def test_alike_for_longer_than_either(self):
        for one, other in (("abaab", "abaababa"), ("abaababa", "abaababaabaab"), ("a", "a" * 29 + "b"),
                           ("abaababaabaab", "abaababaabaababaababa"), ("a" * 14 + "b", "a" * 15 + "b")):
            for surface in ("abAB", "aAbB"):
                self.look(surface, (one, other))
                self.look(surface, (turned(swapped(other), 1), one))


class Least(TightTest):
    def test_no_drawing_has_fewer_of_one(self):
        roots = [word for word in words_up_to(2, 5) if is_root(word)]
        for surface in ("abAB", "aAbB"):
            for word in roots[::4]:
                self.look_at_all_drawings(surface, (word,))

    def test_no_drawing_has_fewer_of_two(self):
        roots = [word for word in words_up_to(2, 3) if is_root(word)]
        for surface in ("abAB", "aAbB", "ABba"):
            for one, other in itertools.product(roots[::3], roots[::4]):
                self.look_at_all_drawings(surface, (one, other))

    def test_no_drawing_has_fewer_of_more(self):
        for surface, ways in (("aA", ("a", "A", "a")), ("aA", ("a", "A", "a", "a")), ("abAB", ("ab", "ab", "BA")),
                              ("aAbB", ("aB", "bA", "aB")), ("abAB", ("a", "b", "ab", "aB")), ("aAbB", ("aab", "b", "aB")),
                              ("abcABC", ("abc", "aC", "b")), ("aAbBcC", ("abc", "ac", "B")), ("cbaABC", ("acB", "Cb", "a"))):
            self.look_at_all_drawings(surface, ways)

    def test_no_drawing_has_fewer_of_picked_ones(self):
        chance = chance_of(354)
        for turn in range(60):
            many = chance.randint(2, 6)
            ways = picked_ways(chance, many, chance.randint(1, 4), 2)
            self.look_at_all_drawings(picked_surface(chance, many), ways[:3])


if __name__ == "__main__":
    unittest.main()
