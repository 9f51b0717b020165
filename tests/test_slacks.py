import copy
import itertools
import unittest

from ringwords.slacks import is_slack, looked
from ringwords.tight import tight
from tests.helpers import (
    FIBONACCI, ODD_THINGS, all_drawings, all_sought_links, chance_of, drawn_crossings, is_root, nested, picked_case,
    picked_drawing, picked_surface, picked_way, replaced, swapped, turned, words_up_to)


def stretches(ways, first, other):
    """All (side, m) by which the one crossing, as the first, makes a slack with the other, by the words of point 37."""
    found = set()
    for (i, p), (j, q) in (first, first[::-1]):
        def one(place):
            return ways[i][place % len(ways[i])]

        def two(place):
            return ways[j][place % len(ways[j])]

        for m in range(1, len(ways[i]) + len(ways[j]) + 1):
            along = {(i, (p + m) % len(ways[i])), (j, (q + m) % len(ways[j]))}
            if set(other) == along and all(one(p + n) == two(q + n) for n in range(1, m + 1)):
                found.add((1, m))
            against = {(i, (p + m) % len(ways[i])), (j, (q - m) % len(ways[j]))}
            if set(other) == against and all(one(p + n) == two(q - n + 1).swapcase() for n in range(1, m + 1)):
                found.add((-1, m))
    return found


def all_stretches(ways, one, other):
    """Those of two crossings, either one first; none of one twice."""
    return set() if one == other else stretches(ways, one, other) | stretches(ways, other, one)


class SlackTest(unittest.TestCase):
    def look(self, surface, ways, drawing):
        """Looks at a drawing and at all pairs of its crossings; tells the stretches that it saw."""
        kept = copy.deepcopy((surface, ways, drawing))
        told = looked(surface, ways, drawing)
        self.assertEqual((surface, ways, drawing), kept)
        found = drawn_crossings(surface, ways, drawing)
        seen = set()
        for one, other in itertools.product(found, repeat=2):
            by_words = all_stretches(ways, one, other)
            self.assertIs(is_slack(surface, ways, drawing, (one, other)), by_words != set(), (surface, ways, one, other))
            seen |= by_words
        self.look_at_told(surface, ways, found, told, seen)
        return seen

    def look_at_told(self, surface, ways, found, told, seen):
        links = all_sought_links(surface, ways)
        self.assertIs(type(told), tuple)
        if len(found) == len(links):
            self.assertEqual(told, ("tight", tuple(links)))
            self.assertIs(type(told[1]), tuple)
            self.assertEqual(seen, set(), (surface, ways))
        else:
            self.assertEqual((len(told), told[0]), (3, "slack"))
            for crossing in told[1:]:
                self.assertIn(crossing, found)
                self.assertEqual([type(crossing)] + [type(strand) for strand in crossing], [tuple] * 3)
            self.assertNotEqual(all_stretches(ways, told[1], told[2]), set(), (surface, ways, told))


class Slacks(SlackTest):
    def test_alike(self):
        drawing = (((1, 0), (0, 0)), ((0, 1), (1, 1)))
        self.assertEqual(drawn_crossings("aAbB", ("ab", "ab"), drawing), [((0, 0), (1, 0)), ((0, 1), (1, 1))])
        one, other = ((0, 0), (1, 0)), ((0, 1), (1, 1))
        self.assertIs(is_slack("aAbB", ("ab", "ab"), drawing, (one, other)), True)
        self.assertIs(is_slack("aAbB", ("ab", "ab"), drawing, (other, one)), True)
        told = looked("aAbB", ("ab", "ab"), drawing)
        self.assertEqual((told[0], {told[1], told[2]}), ("slack", {one, other}))

    def test_against(self):
        drawing = (((0, 0), (1, 1)), ((1, 0), (0, 1)))
        ways = ("ab", "BA")
        found = drawn_crossings("aAbB", ways, drawing)
        self.assertEqual(found, [((0, 0), (1, 0)), ((0, 1), (1, 1))])
        for pair in (tuple(found), tuple(found[::-1])):
            self.assertIs(is_slack("aAbB", ways, drawing, pair), True)

    def test_all_drawings_of_short_ways(self):
        seen = set()
        for surface, ways in (("aAbB", ("aabAB",)), ("abAB", ("aab", "abb")), ("abAB", ("ab", "BAA")), ("aA", ("a", "A", "a")),
                              ("abcABC", ("abC", "cAb")), ("aAbB", ("aB", "bA", "aB")), ("abAB", ("a", "b", "ab", "aB")),
                              ("abAB", ("aabb",)), ("aAbB", ("abaB",)), ("abAB", ("aaab",)), ("aAbB", ("aab", "BAA"))):
            for drawing in all_drawings(surface, ways):
                seen |= self.look(surface, ways, drawing)
        self.assertEqual({side for side, m in seen}, {1, -1})
        self.assertTrue({1, 2, 3} <= {m for side, m in seen})

    def test_all_short_ways_alone(self):
        roots = [word for word in words_up_to(2, 5) if is_root(word)]
        chance = chance_of(37)
        for word in roots[::5]:
            for surface in ("abAB", "aAbB"):
                drawings = all_drawings(surface, (word,))
                for drawing in chance.sample(drawings, min(4, len(drawings))):
                    self.look(surface, (word,), drawing)

    def test_picked_drawings(self):
        chance = chance_of(370)
        seen = set()
        for turn in range(120):
            surface, ways = picked_case(chance, 10)
            seen |= self.look(surface, ways, picked_drawing(chance, surface, ways))
            self.assertEqual(self.look(surface, ways, tight(surface, ways)), set())
        self.assertEqual({side for side, m in seen}, {1, -1})

    def test_one_pair_changed_in_a_tight_drawing(self):
        chance = chance_of(371)
        for turn in range(60):
            surface, ways = picked_surface(chance, 2), (picked_way(chance, 2, 4), picked_way(chance, 2, 5))
            drawing = tight(surface, ways)
            for number, order in enumerate(drawing):
                if len(order) > 1:
                    place = chance.randrange(len(order) - 1)
                    swap = order[:place] + (order[place + 1], order[place]) + order[place + 2:]
                    self.look(surface, ways, replaced(drawing, number, swap))

    def test_alike_for_longer_than_either(self):
        chance = chance_of(372)
        longest = 0
        for one, other in list(zip(FIBONACCI, FIBONACCI[1:4])) + [("a", "aaaaab"), ("ab", "ababa"), ("aab", "aabaabaa")]:
            for ways in ((one, other), (turned(swapped(other), 1), one), (one, one), (one, swapped(one))):
                for surface in ("abAB", "aAbB"):
                    for turn in range(3):
                        seen = self.look(surface, ways, picked_drawing(chance, surface, ways))
                        longest = max([longest] + [m - max(len(way) for way in ways) for side, m in seen])
        self.assertGreater(longest, 0)

    def test_as_long_as_a_stretch_can_be(self):
        # Both go alike from end to end of a stretch of two letters fewer than both have together.
        for ways in (("abaab", "abaababa"), ("abaababa", "abaab")):
            drawing = self.crossing_at_both_ends(ways)
            self.assertIsNotNone(drawing)
            sizes = [m for side, m in self.look("abAB", ways, drawing)]
            self.assertEqual(max(sizes), 11)

    def crossing_at_both_ends(self, ways):
        """A drawing in which two ways cross at both ends of their longest stretch."""
        chance = chance_of(373)
        for turn in range(400):
            drawing = picked_drawing(chance, "abAB", ways)
            found = drawn_crossings("abAB", ways, drawing)
            for pair in itertools.combinations(found, 2):
                if (1, 11) in all_stretches(ways, *pair):
                    return drawing
        return None

    def test_long_ways(self):
        chance = chance_of(374)
        for turn in range(6):
            surface, ways = picked_case(chance, 60)
            for drawing in (picked_drawing(chance, surface, ways), tight(surface, ways)):
                found = drawn_crossings(surface, ways, drawing)
                links = all_sought_links(surface, ways)
                told = looked(surface, ways, drawing)
                self.assertEqual(told[0], "tight" if len(found) == len(links) else "slack")
                if told[0] == "slack":
                    self.assertIs(is_slack(surface, ways, drawing, told[1:]), True)
                self.look_at_told(surface, ways, found, told, set())


class Kinds(SlackTest):
    def setUp(self):
        self.case = ("aAbB", ("ab", "ab", "aB"), (((1, 0), (2, 0), (0, 0)), ((0, 1), (2, 1), (1, 1))))
        self.found = drawn_crossings(*self.case)
        self.slacks = [pair for pair in itertools.permutations(self.found, 2) if all_stretches(self.case[1], *pair)]

    def no_slack(self, thing):
        kept = copy.deepcopy(thing)
        self.assertIs(is_slack(*self.case, thing), False, thing)
        self.assertEqual(repr(thing), repr(kept))

    def test_slacks(self):
        self.assertGreater(len(self.slacks), 1)
        for pair in self.slacks:
            self.assertIs(is_slack(*self.case, pair), True)

    def test_a_crossing_twice(self):
        for crossing in self.found:
            self.no_slack((crossing, crossing))
            self.no_slack((crossing, crossing[::-1]))

    def test_a_crossing_twice_along_a_whole_way(self):
        # Both come back to the same crossing behind as many letters as either has.
        for surface, ways in (("aA", ("a", "a")), ("abAB", ("ab", "ab")), ("aAbB", ("aab", "BAA")), ("aAbB", ("aab",))):
            for drawing in all_drawings(surface, ways):
                for crossing in drawn_crossings(surface, ways, drawing):
                    self.assertIs(is_slack(surface, ways, drawing, (crossing, crossing)), False)

    def test_strands_changed_about(self):
        for one, other in self.slacks:
            self.no_slack((one[::-1], other))
            self.no_slack((one, other[::-1]))
            self.no_slack((one[::-1], other[::-1]))

    def test_lists_and_counts(self):
        for one, other in self.slacks:
            for thing in [
                    [one, other], (list(one), other), (one, list(other)), (one,), (one, other, one), (one, other, ()),
                    ((one, other),), one, other, one + other, {one: other}, {0: one, 1: other}, (one, None), (None, other),
                    (one, other + other), (one + ((0, 0),), other), (one[:1], other), (one, ()), ("slack", one, other),
                    ((list(one[0]), one[1]), other), (one, (other[0], list(other[1]))), ((one[0] + (0,), one[1]), other)]:
                self.no_slack(thing)

    def test_truths(self):
        seen = 0
        for pair in self.slacks:
            for a, b, c in itertools.product((0, 1), repeat=3):
                number = pair[a][b][c]
                if number in (0, 1):
                    strand = replaced(pair[a][b], c, bool(number))
                    thing = replaced(pair, a, replaced(pair[a], b, strand))
                    self.assertEqual(thing, pair)
                    self.no_slack(thing)
                    seen += 1
        self.assertGreater(seen, 8)

    def test_pairs_that_are_no_crossings(self):
        ways = self.case[1]
        strands = [(number, place) for number, way in enumerate(ways) for place in range(len(way))]
        seen = 0
        for one in itertools.product(strands, repeat=2):
            for other in itertools.product(strands, repeat=2):
                if one not in self.found or other not in self.found:
                    self.no_slack((one, other))
                    seen += all_stretches(ways, one, other) != set()
        self.assertGreater(seen, 10)

    def test_strands_that_are_none(self):
        for pair in self.slacks:
            for a, b in itertools.product((0, 1), repeat=2):
                way, place = pair[a][b]
                for strand in [(way, place + 2), (way, place - 2), (way + 3, place), (way - 3, place), (way, 10 ** 39),
                               (way,), way, None, "00", (str(way), place), (way, None), {way: place}, ()]:
                    self.no_slack(replaced(pair, a, replaced(pair[a], b, strand)))

    def test_any_plain_thing(self):
        for thing in ODD_THINGS + [nested(100), (), ((), ()), (((), ()), ((), ()))]:
            self.no_slack(thing)
            for crossing in self.found:
                self.no_slack((thing, crossing))
                self.no_slack((crossing, thing))
            for pair in self.slacks:
                self.no_slack(((thing, pair[0][1]), pair[1]))
                self.no_slack((pair[0], (pair[1][0], thing)))


if __name__ == "__main__":
    unittest.main()
