import copy
import itertools
import unittest

from ringwords.drawings import crossed, crossings, is_drawing, points
from tests.helpers import (
    ODD_THINGS, all_drawings, bent_drawings, chance_of, drawn_crossings, drawn_points, nested, picked_case,
    picked_drawing, replaced, strands_by_letter)


class Kinds(unittest.TestCase):
    def test_drawings(self):
        chance = chance_of(32)
        for turn in range(300):
            surface, ways = picked_case(chance, 60)
            drawing = picked_drawing(chance, surface, ways)
            self.assertIs(is_drawing(surface, ways, drawing), True)
            self.assertIs(is_drawing(surface, ways, tuple(tuple(row) for row in strands_by_letter(surface, ways))), True)

    def test_told_ones(self):
        self.assertIs(is_drawing("aA", ("a",), (((0, 0),),)), True)
        self.assertIs(is_drawing("aA", ("A", "a"), (((1, 0), (0, 0)),)), True)
        self.assertIs(is_drawing("abAB", ("a",), (((0, 0),), ())), True)
        self.assertIs(is_drawing("abAB", ("b",), ((), ((0, 0),))), True)
        self.assertIs(is_drawing("abAB", ("b",), (((0, 0),), ())), False)
        self.assertIs(is_drawing("abAB", ("aB", "bA"), (((1, 1), (0, 0)), ((0, 1), (1, 0)))), True)
        self.assertIs(is_drawing("abAB", ("aB", "bA"), (((1, 0), (0, 0)), ((0, 1), (1, 1)))), False)
        self.assertIs(is_drawing("abAB", ("a",), (((0, 0),),)), False)
        self.assertIs(is_drawing("aA", ("a",), (((0, 0),), ())), False)

    def test_all_orders_of_few_strands(self):
        for surface, ways in (("abAB", ("aab", "b")), ("aAbB", ("abAB",)), ("aA", ("a", "a", "A")), ("abcABC", ("abc", "aC"))):
            for drawing in all_drawings(surface, ways):
                self.assertIs(is_drawing(surface, ways, drawing), True)

    def test_two_of_one_band_changed_about(self):
        chance = chance_of(320)
        for turn in range(40):
            surface, ways = picked_case(chance, 20)
            drawing = picked_drawing(chance, surface, ways)
            for number, order in enumerate(drawing):
                for one, other in itertools.combinations(range(len(order)), 2):
                    bent = replaced(replaced(order, one, order[other]), other, order[one])
                    self.assertIs(is_drawing(surface, ways, replaced(drawing, number, bent)), True)

    def test_bent_at_one_place(self):
        chance = chance_of(321)
        seen = set()
        for turn in range(40):
            surface, ways = picked_case(chance, 12)
            seen.add(len(ways))
            drawing = picked_drawing(chance, surface, ways)
            for thing in bent_drawings(surface, ways, drawing):
                self.assertIs(is_drawing(surface, ways, thing), False, (surface, ways, thing))
        self.assertEqual(seen, {1, 2, 3, 4})

    def test_nothing_is_changed(self):
        chance = chance_of(322)
        surface, ways = "abcABC", ("aab", "cB")
        for thing in bent_drawings(surface, ways, picked_drawing(chance, surface, ways)):
            kept = copy.deepcopy(thing)
            is_drawing(surface, ways, thing)
            self.assertEqual(repr(thing), repr(kept))

    def test_drawings_of_other_ways(self):
        self.assertIs(is_drawing("abAB", ("ab",), (((0, 0),), ((0, 1),))), True)
        self.assertIs(is_drawing("abAB", ("ba",), (((0, 0),), ((0, 1),))), False)
        self.assertIs(is_drawing("abAB", ("ab", "a"), (((0, 0),), ((0, 1),))), False)
        self.assertIs(is_drawing("abAB", ("a",), (((0, 0),), ((0, 1),))), False)

    def test_other_kinds(self):
        for surface, ways in (("aA", ("a",)), ("abAB", ("ab", "b")), ("aAbBcCdDeEfF", ("a", "bf"))):
            for thing in ODD_THINGS + [(), ((),) * 6, nested(100), "aA", "abAB", ways, ((0, 0),), (0, 0), (((0, 0),), 0)]:
                self.assertIs(is_drawing(surface, ways, thing), False, thing)
            for wrong in ODD_THINGS:
                self.assertIs(is_drawing(surface, ways, (wrong,) * (len(surface) // 2)), False, wrong)
                self.assertIs(is_drawing(surface, ways, ((wrong,),) * (len(surface) // 2)), False, wrong)


class Points(unittest.TestCase):
    def test_told_ones(self):
        self.assertEqual(points("aA", ("a",), (((0, 0),),)), [("a", (0, 0)), ("A", (0, 0))])
        drawing = (((0, 1), (1, 0), (0, 0)), ((0, 2),))
        self.assertEqual(points("abAB", ("aab", "a"), drawing), [
            ("a", (0, 1)), ("a", (1, 0)), ("a", (0, 0)), ("b", (0, 2)),
            ("A", (0, 0)), ("A", (1, 0)), ("A", (0, 1)), ("B", (0, 2))])
        self.assertEqual(points("BAab", ("aab", "a"), drawing), [
            ("B", (0, 2)), ("A", (0, 0)), ("A", (1, 0)), ("A", (0, 1)),
            ("a", (0, 1)), ("a", (1, 0)), ("a", (0, 0)), ("b", (0, 2))])
        self.assertEqual(points("bBAa", ("A",), (((0, 0),), ())), [("A", (0, 0)), ("a", (0, 0))])

    def test_picked_ones(self):
        chance = chance_of(323)
        for turn in range(200):
            surface, ways = picked_case(chance, 60)
            drawing = picked_drawing(chance, surface, ways)
            told = points(surface, ways, drawing)
            self.assertIs(type(told), list)
            self.assertEqual({type(point) for point in told}, {tuple})
            self.assertEqual(told, drawn_points(surface, drawing))
            self.assertEqual(len(told), 2 * len("".join(ways)))

    def test_told_lists_are_the_askers_own(self):
        drawing = (((0, 0), (0, 1)), ((0, 2),))
        kept = points("abAB", ("aab",), drawing)
        told = points("abAB", ("aab",), drawing)
        told.reverse()
        told.append(("a", (0, 0)))
        points("abAB", ("aab",), drawing).clear()
        self.assertEqual(points("abAB", ("aab",), drawing), kept)
        self.assertEqual(crossings("abAB", ("aab",), drawing), drawn_crossings("abAB", ("aab",), drawing))


class Crossings(unittest.TestCase):
    def look(self, surface, ways, drawing):
        told = crossings(surface, ways, drawing)
        self.assertIs(type(told), list)
        self.assertEqual(told, drawn_crossings(surface, ways, drawing), (surface, ways, drawing))
        self.assertEqual(told, sorted(told))
        for one, other in told:
            self.assertLess(one, other)
        for pair in told:
            self.assertEqual([type(pair), type(pair[0]), type(pair[1])], [tuple] * 3)
        for i in range(len(ways)):
            for j in range(len(ways)):
                count = crossed(surface, ways, drawing, i, j)
                self.assertIs(type(count), int)
                wanted = [pair for pair in told if sorted([pair[0][0], pair[1][0]]) == sorted([i, j])]
                self.assertEqual(count, len(wanted), (surface, ways, drawing, i, j))

    def test_told_ones(self):
        drawing = (((0, 0),), ((1, 0),))
        self.assertEqual(crossings("abAB", ("a", "b"), drawing), [((0, 0), (1, 0))])
        self.assertEqual(crossed("abAB", ("a", "b"), drawing, 0, 1), 1)
        self.assertEqual(crossed("abAB", ("a", "b"), drawing, 1, 0), 1)
        self.assertEqual(crossed("abAB", ("a", "b"), drawing, 0, 0), 0)
        self.assertEqual(crossings("aAbB", ("a", "b"), drawing), [])
        self.assertEqual(crossings("abBA", ("a", "b"), drawing), [])
        # The chord of (0, 0) goes from the band of a to that of b, the chord of (0, 1) from there to the band of a.
        one = (((0, 0),), ((0, 1),))
        self.assertEqual(crossings("aAbB", ("ab",), one), [])
        self.assertEqual(crossings("aAbB", ("aB",), one), [((0, 0), (0, 1))])
        self.assertEqual(crossings("abAB", ("ab",), one), [])
        self.assertEqual(crossings("abAB", ("aB",), one), [])
        self.assertEqual(crossed("aAbB", ("aB",), one, 0, 0), 1)

    def test_chords_that_go_along_one_another(self):
        # Two ways by one band: each has a chord from the big end to the small one, and these lie beside one another.
        self.assertEqual(crossings("aA", ("a", "a"), (((0, 0), (1, 0)),)), [])
        self.assertEqual(crossings("aA", ("a", "A"), (((1, 0), (0, 0)),)), [])
        ways = ("ab", "ab")
        for drawing in all_drawings("abAB", ways):
            wanted = [] if drawing[0][0][0] == drawing[1][0][0] else [((0, 0), (1, 0)), ((0, 1), (1, 1))]
            self.assertEqual(crossings("abAB", ways, drawing), wanted, drawing)

    def test_ways_of_one_letter(self):
        for surface in ("aA", "Aa"):
            for ways in (("a",), ("A",), ("a", "a"), ("a", "A"), ("A", "a", "A", "a")):
                for drawing in all_drawings(surface, ways):
                    self.look(surface, ways, drawing)
                    self.assertEqual(crossings(surface, ways, drawing), [])
        for surface in ("abcABC", "aAbcBC", "abcCBA"):
            for ways in (("a", "b", "c", "c"), ("A", "B"), ("a", "B", "c")):
                for drawing in all_drawings(surface, ways):
                    self.look(surface, ways, drawing)

    def test_all_of_few_strands(self):
        for surface, ways in (("abAB", ("aab", "b")), ("aAbB", ("abAB",)), ("aBbA", ("aab", "ab")), ("bAaB", ("aB", "Ab", "a")),
                              ("abcABC", ("abc", "aC")), ("aAbBcC", ("abcB",)), ("cABaCb", ("aab", "c"))):
            for drawing in all_drawings(surface, ways):
                self.look(surface, ways, drawing)

    def test_picked_ones(self):
        chance = chance_of(324)
        seen = set()
        for turn in range(150):
            surface, ways = picked_case(chance, 24)
            seen.add(len(ways))
            self.look(surface, ways, picked_drawing(chance, surface, ways))
        self.assertEqual(seen, {1, 2, 3, 4})
        for turn in range(6):
            surface, ways = picked_case(chance, 60)
            self.look(surface, ways, picked_drawing(chance, surface, ways))

    def test_told_lists_are_the_askers_own(self):
        drawing = (((0, 1), (0, 0)), ((0, 2), (1, 0)))
        kept = drawn_crossings("abAB", ("aab", "b"), drawing)
        self.assertGreater(len(kept), 1)
        told = crossings("abAB", ("aab", "b"), drawing)
        told.reverse()
        told.append(told[0])
        crossings("abAB", ("aab", "b"), drawing).clear()
        self.assertEqual(crossings("abAB", ("aab", "b"), drawing), kept)
        self.assertEqual(sum(crossed("abAB", ("aab", "b"), drawing, i, j) for i, j in ((0, 0), (0, 1), (1, 1))), len(kept))


if __name__ == "__main__":
    unittest.main()
