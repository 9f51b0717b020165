import unittest

from ringwords.balance import balance
from ringwords.links import links
from tests.helpers import (
    FIBONACCI, all_surfaces, chance_of, drawn_crossings, is_root, picked_case, picked_drawing, picked_surface, picked_way,
    sought_links, swapped, turned, words_up_to)


class LinksTest(unittest.TestCase):
    def look(self, surface, ways, i, j):
        told = links(surface, ways, i, j)
        self.assertIs(type(told), list)
        self.assertEqual(told, sought_links(surface, ways, i, j), (surface, ways, i, j))
        self.assertEqual(told, sorted(set(told)))
        for link in told:
            self.assertEqual({type(part) for part in link[:3]}, {str, tuple})
            self.assertEqual([link[1][0], link[2][0]], [i, j], (surface, ways, link))
            self.assertEqual([type(part) for part in link[1] + link[2] + link[3:]], [int] * (len(link) + 1))
        return told

    def look_at_all(self, surface, ways):
        return [link for i in range(len(ways)) for j in range(i, len(ways)) for link in self.look(surface, ways, i, j)]


class Told(LinksTest):
    def test_none(self):
        for surface, ways in (("aA", ("a",)), ("aA", ("a", "a")), ("aA", ("a", "A", "a", "A")), ("aAbB", ("a", "b", "ab")),
                              ("abAB", ("ab",)), ("abAB", ("aab", "BAA", "aba")), ("abAB", ("abAB",)),
                              ("abBA", ("a", "b"))):
            self.assertEqual(self.look_at_all(surface, ways), [], (surface, ways))

    def test_beside(self):
        self.assertEqual(self.look("abAB", ("a", "b"), 0, 1), [("beside", (0, 0), (1, 0))])
        self.assertEqual(self.look("abAB", ("b", "a"), 0, 1), [("beside", (0, 0), (1, 0))])
        self.assertEqual(self.look("aAbB", ("aB",), 0, 0), [("beside", (0, 0), (0, 1))])
        self.assertEqual(self.look("abAB", ("aabb",), 0, 0), [("beside", (0, 0), (0, 2))])

    def test_along(self):
        self.assertEqual(self.look("aAbB", ("aab",), 0, 0), [("along", (0, 0), (0, 1), 1)])
        self.assertEqual(self.look("abAB", ("aab", "ab"), 0, 1), [("along", (0, 1), (1, 0), 3)])
        self.assertEqual(self.look("abAB", ("ab", "aab"), 0, 1), [("along", (0, 0), (1, 1), 3)])
        self.assertEqual(self.look("abcABC", ("ab", "bC"), 0, 1), [("along", (0, 1), (1, 0), 1)])

    def test_against(self):
        self.assertEqual(self.look("aAbB", ("abAB",), 0, 0), [
            ("against", (0, 0), (0, 2), 1), ("against", (0, 1), (0, 3), 1), ("beside", (0, 1), (0, 3))])
        self.assertEqual(self.look("abAB", ("ab", "BAA"), 0, 1), [("against", (0, 0), (1, 1), 3)])
        self.assertEqual(self.look("abAB", ("BAA", "ab"), 0, 1), [("against", (0, 2), (1, 0), 3)])

    def test_several_kinds(self):
        self.assertEqual(self.look("abAB", ("aab", "abb"), 0, 1), [
            ("along", (0, 1), (1, 0), 2), ("along", (0, 2), (1, 2), 2), ("beside", (0, 0), (1, 1))])
        self.assertEqual(self.look("abAB", ("ab", "aB"), 0, 1), [
            ("against", (0, 1), (1, 1), 1), ("along", (0, 0), (1, 0), 1)])
        self.assertEqual(self.look("aAbB", ("aabAB",), 0, 0), [
            ("against", (0, 1), (0, 3), 1), ("against", (0, 2), (0, 4), 1), ("along", (0, 0), (0, 1), 1),
            ("beside", (0, 2), (0, 4))])

    def test_ways_by_their_numbers(self):
        ways = ("a", "aab", "b", "ab")
        self.assertEqual(self.look("abAB", ways, 1, 3), [("along", (1, 1), (3, 0), 3)])
        self.assertEqual(self.look("abAB", ways, 0, 2), [("beside", (0, 0), (2, 0))])
        self.assertEqual(self.look("abAB", ways, 2, 2), [])

    def test_how_many_on_a_torus_with_a_hole(self):
        # There ways that don't cross themselves cross one another as often as their sums say.
        for one in ("a", "b", "ab", "aab", "abb", "aB", "aaab", "aabab", "BBBA"):
            for other in ("a", "B", "ab", "aaB", "aab", "ababb", "AB"):
                self.assertEqual(self.look("abAB", (one, other), 0, 0), [])
                self.assertEqual(len(self.look("abAB", (one, other), 0, 1)), abs(balance("abAB", one, other)), (one, other))


class Sought(LinksTest):
    def test_all_short_ones(self):
        roots = [word for word in words_up_to(2, 4) if is_root(word)]
        for surface in ("abAB", "aAbB", "bABa"):
            for one in roots:
                self.look(surface, (one,), 0, 0)
        for surface in ("abAB", "aAbB"):
            for one in roots[::3]:
                for other in roots[::5]:
                    self.look(surface, (one, other), 0, 1)

    def test_all_small_surfaces(self):
        for many in (1, 2):
            for surface in all_surfaces(many):
                for ways in ((("a",), ("a", "A")) if many == 1 else (("aabAB", "ab"), ("aBB", "aBBAb"))):
                    self.look_at_all(surface, ways)
        for surface in all_surfaces(3)[::7]:
            self.look_at_all(surface, ("abC", "ccAb"))

    def test_picked_ones(self):
        chance = chance_of(34)
        kinds = set()
        for turn in range(250):
            surface, ways = picked_case(chance, 32)
            kinds |= {link[0] for link in self.look_at_all(surface, ways)}
        self.assertEqual(kinds, {"along", "against", "beside"})

    def test_ways_of_30_letters(self):
        chance = chance_of(340)
        for many in range(2, 7):
            surface = picked_surface(chance, many)
            one, other = picked_way(chance, many, 30), picked_way(chance, many, 30)
            self.look_at_all(surface, (one, other))
            self.look_at_all(surface, (one, turned(swapped(one), 11)))

    def test_long_alike(self):
        long = "a" * 29 + "b"
        for other in ("a" * 28 + "bb", "a" * 28 + "B", "B" + "A" * 29, "B" + "A" * 28 + "B", "a" * 27 + "bab", "Ab"):
            self.assertTrue(is_root(other), other)
            for surface in ("abAB", "aAbB", "abBA", "bBAa"):
                self.look_at_all(surface, (long, other))


class GoingRound(LinksTest):
    def test_alike_for_longer_than_either(self):
        for one, other in zip(FIBONACCI, FIBONACCI[1:]):
            for there in (other, turned(other, 1), swapped(other), turned(swapped(other), 2)):
                told = self.look("abAB", (one, there), 0, 1)
                self.assertEqual([link[3] for link in told], [len(one) + len(other) - 2], (one, there))
        self.assertEqual(self.look("abAB", ("abaab", "abaababa"), 0, 1), [("along", (0, 0), (1, 0), 11)])

    def test_a_short_way_many_times_round(self):
        told = self.look("abAB", ("a", "a" * 29 + "b"), 0, 1)
        self.assertEqual(told, [("along", (0, 0), (1, 0), 29)])
        told = self.look("abAB", ("A", "a" * 29 + "b"), 0, 1)
        self.assertEqual(told, [("against", (0, 0), (1, 28), 29)])
        told = self.look("abAB", ("ab", "ab" * 13 + "aab"), 0, 1)
        self.assertEqual(told, [("along", (0, 0), (1, 27), 29)])

    def test_turns_and_backs_of_one_another(self):
        chance = chance_of(341)
        for turn in range(60):
            many = chance.randint(2, 6)
            surface = picked_surface(chance, many)
            word = picked_way(chance, many, chance.randint(1, 12))
            own = len(self.look(surface, (word,), 0, 0))
            place = chance.randrange(len(word))
            for other in (word, turned(word, place), swapped(word), turned(swapped(word), place)):
                ways = (word, other)
                self.assertEqual(len(self.look(surface, ways, 1, 1)), own, (surface, ways))
                self.assertEqual(len(self.look(surface, ways, 0, 1)), 2 * own, (surface, ways))

    def test_as_many_for_turns_and_backs(self):
        chance = chance_of(342)
        for turn in range(60):
            many = chance.randint(2, 6)
            surface = picked_surface(chance, many)
            one, other = picked_way(chance, many, chance.randint(1, 9)), picked_way(chance, many, chance.randint(1, 9))
            count = len(self.look(surface, (one, other), 0, 1))
            for place in range(len(one)):
                self.assertEqual(len(links(surface, (turned(one, place), other), 0, 1)), count)
                self.assertEqual(len(links(surface, (other, turned(swapped(one), place)), 0, 1)), count)


class Orders(LinksTest):
    def changed_about(self, ways, link):
        """The link when both ways are changed about."""
        kind, one, other = link[:3]
        if kind == "against":
            p, q, many = one[1], other[1], link[3]
            return (kind, (0, (q - many + 1) % len(ways[1])), (1, (p + many - 1) % len(ways[0])), many)
        return (kind, (0, other[1]), (1, one[1])) + link[3:]

    def test_the_same_ways_in_another_order(self):
        chance = chance_of(343)
        for turn in range(80):
            many = chance.randint(2, 6)
            surface = picked_surface(chance, many)
            ways = (picked_way(chance, many, chance.randint(1, 10)), picked_way(chance, many, chance.randint(1, 10)))
            told = self.look(surface, ways, 0, 1)
            there = self.look(surface, ways[::-1], 0, 1)
            self.assertEqual(there, sorted(self.changed_about(ways, link) for link in told))

    def test_beside_others(self):
        chance = chance_of(344)
        for turn in range(30):
            many = chance.randint(2, 6)
            surface = picked_surface(chance, many)
            words = [picked_way(chance, many, chance.randint(1, 8)) for number in range(4)]
            own = [links(surface, (word,), 0, 0) for word in words]
            for number, word in enumerate(words):
                told = links(surface, tuple(words), number, number)
                self.assertEqual(told, [(link[0], (number, link[1][1]), (number, link[2][1])) + link[3:] for link in own[number]])

    def test_each_against_once(self):
        chance = chance_of(345)
        seen = 0
        for turn in range(100):
            many = chance.randint(2, 4)
            surface = picked_surface(chance, many)
            word = picked_way(chance, many, chance.randint(3, 12))
            for kind, one, other, length in [link for link in links(surface, (word,), 0, 0) if link[0] == "against"]:
                self.assertLess(one, (0, (other[1] - length + 1) % len(word)))
                seen += 1
        self.assertGreater(seen, 50)

    def test_told_lists_are_the_askers_own(self):
        ways = ("aabAB", "ab")
        for i, j in ((0, 0), (0, 1)):
            kept = sought_links("aAbB", ways, i, j)
            told = links("aAbB", ways, i, j)
            told.append(("beside", (0, 0), (0, 1)))
            told.reverse()
            links("aAbB", ways, i, j).clear()
            self.assertEqual(links("aAbB", ways, i, j), kept)


class Least(LinksTest):
    def test_every_drawing_crosses_at_least_so_often(self):
        chance = chance_of(346)
        for turn in range(120):
            surface, ways = picked_case(chance, 24)
            told = drawn_crossings(surface, ways, picked_drawing(chance, surface, ways))
            for i in range(len(ways)):
                for j in range(i, len(ways)):
                    count = len([pair for pair in told if (pair[0][0], pair[1][0]) == (i, j)])
                    self.assertGreaterEqual(count, len(links(surface, ways, i, j)), (surface, ways, i, j))

    def test_balance(self):
        chance = chance_of(347)
        for turn in range(120):
            surface, ways = picked_case(chance, 40)
            for i in range(len(ways)):
                for j in range(i + 1, len(ways)):
                    count = len(links(surface, ways, i, j))
                    weight = balance(surface, ways[i], ways[j])
                    self.assertLessEqual(abs(weight), count)
                    self.assertEqual((count - weight) % 2, 0)


if __name__ == "__main__":
    unittest.main()
