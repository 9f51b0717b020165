import itertools
import unittest

from ringwords.crosschecker import lets_crossing
from ringwords.crossing import crossing_paper
from ringwords.tight import tight
from tests.helpers import (
    FIBONACCI, ODD_THINGS, CheckerTest, all_drawings, all_sought_links, all_surfaces, bent_drawings, chance_of,
    drawn_crossings, is_root, nested, picked_case, picked_drawing, picked_surface, picked_way, picked_ways, replaced,
    swapped, turned, words_up_to)

# Each with links of all three kinds.
CASES = [
    ("aAbB", ("aabAB",)), ("abAB", ("aab", "abb", "BAA")), ("abcABC", ("abC", "ccAb", "BaC")),
    ("abAB", ("ab", "aB", "BAA", "aabb")),
]


def told_from_the_other_end(ways, link):
    """The link against, by its other two strands."""
    i, p = link[1]
    j, q = link[2]
    many = link[3]
    return ("against", (j, (q - many + 1) % len(ways[j])), (i, (p + many - 1) % len(ways[i])), many)


def with_truths(link):
    """The link, each time with a truth for one of its numbers."""
    for place in (1, 2):
        for part in (0, 1):
            if link[place][part] in (0, 1):
                yield replaced(link, place, replaced(link[place], part, bool(link[place][part])))
    if len(link) == 4 and link[3] == 1:
        yield replaced(link, 3, True)


def with_other_numbers(ways, link):
    """The link, each time with another number at one place, within and beyond the ways."""
    for place in (1, 2):
        way, at = link[place]
        for other in list(range(-1, len(ways) + 1)) + [10 ** 39]:
            if other != way:
                yield replaced(link, place, (other, at))
        for other in list(range(-1, len(ways[way]) + 1)) + [at - len(ways[way]), at + len(ways[way]), 10 ** 39]:
            if other != at:
                yield replaced(link, place, (way, other))
    if len(link) == 4:
        for many in (0, -1, link[3] - 1, link[3] + 1, 10 ** 39, -link[3]):
            if many != link[3]:
                yield replaced(link, 3, many)


def of_other_shapes(link):
    """Things like the link, of other kinds."""
    yield list(link)
    yield link + (1,)
    yield link + (None,)
    yield link[:-1]
    yield link[1:]
    yield (link,)
    yield dict(enumerate(link))
    for word in ("", "Beside", "beside ", "alone", "link", 0, None, True, ("beside",), "against", "along", "beside"):
        if word != link[0]:
            yield replaced(link, 0, word)
    for place in range(1, len(link)):
        for part in (None, True, False, "", "0", str(link[place]), [], (), [link[place]], (link[place],), {}, nested(90)):
            yield replaced(link, place, part)
    for place in (1, 2):
        for part in (list(link[place]), link[place] + (0,), link[place][:1], dict([link[place]])):
            yield replaced(link, place, part)


class Checked(CheckerTest):
    def papers(self):
        for surface, ways in CASES:
            told = tuple(all_sought_links(surface, ways))
            self.assertEqual(len(told), len(drawn_crossings(surface, ways, tight(surface, ways))))
            yield surface, ways, tight(surface, ways), told

    def test_the_cases_have_links_of_all_kinds(self):
        for surface, ways, drawing, told in self.papers():
            self.assertEqual({link[0] for link in told}, {"beside", "along", "against"})
        self.assertTrue(any(link[3] > 1 for case in CASES for link in all_sought_links(*case) if len(link) == 4))

    def test_any_drawing_with_as_many_crossings_as_links(self):
        seen = set()
        for surface, ways in (("aAbB", ("aabAB",)), ("abAB", ("aab", "abb")), ("abAB", ("ab", "BAA")), ("aA", ("a", "A", "a")),
                              ("abcABC", ("abC", "cAb")), ("aAbB", ("aB", "bA", "aB")), ("abAB", ("a", "b", "ab", "aB"))):
            told = tuple(all_sought_links(surface, ways))
            for drawing in all_drawings(surface, ways):
                if len(drawn_crossings(surface, ways, drawing)) == len(told):
                    self.let_by(lets_crossing, surface, ways, (drawing, told))
                    seen.add((ways, drawing))
                else:
                    self.refused("many", 0, lets_crossing, surface, ways, (drawing, told))
        self.assertGreater(len(seen), 20)

    def test_no_links(self):
        self.let_by(lets_crossing, "aA", ("a",), ((((0, 0),),), ()))
        self.let_by(lets_crossing, "abAB", ("ab",), ((((0, 0),), ((0, 1),)), ()))
        self.let_by(lets_crossing, "aAbB", ("a", "b"), ((((0, 0),), ((1, 0),)), ()))
        self.refused("many", 0, lets_crossing, "abAB", ("a", "b"), ((((0, 0),), ((1, 0),)), ()))

    def test_one_written_by_hand(self):
        drawing = (((0, 0),), ((1, 0),))
        self.let_by(lets_crossing, "abAB", ("a", "b"), (drawing, (("beside", (0, 0), (1, 0)),)))
        drawing = (((0, 1), (0, 0)), ((0, 2), (1, 0)))
        self.refused("many", 0, lets_crossing, "abAB", ("aab", "b"), (
            drawing, (("along", (0, 2), (1, 0), 1), ("beside", (0, 0), (1, 0)))))

    def test_shape(self):
        for surface, ways, drawing, told in self.papers():
            for thing in [
                    [drawing, told], (drawing,), (told,), (), (drawing, told, ()), (drawing, told, told), (told, drawing),
                    {0: drawing, 1: told}, drawing, told, drawing + told, (drawing, list(told)), (drawing, None),
                    (drawing, dict.fromkeys(told)), (drawing, ""), (drawing, 0), (drawing, True), (None, told),
                    (list(drawing), told), ((drawing, told),), nested(100), (drawing, told[0][0])]:
                self.refused("shape", 0, lets_crossing, surface, ways, thing)
            for thing in ODD_THINGS:
                self.refused("shape", 0, lets_crossing, surface, ways, thing)
                self.refused("shape", 0, lets_crossing, surface, ways, (thing, told))
                if not isinstance(thing, tuple):
                    self.refused("shape", 0, lets_crossing, surface, ways, (drawing, thing))

    def test_drawings_bent_at_one_place(self):
        surface, ways = CASES[0]
        told = tuple(all_sought_links(surface, ways))
        seen = 0
        for bent in bent_drawings(surface, ways, tight(surface, ways)):
            self.refused("shape", 0, lets_crossing, surface, ways, (bent, told))
            self.refused("shape", 0, lets_crossing, surface, ways, (bent, (None,)))
            seen += 1
        self.assertGreater(seen, 100)

    def test_links_of_other_kinds(self):
        for surface, ways, drawing, told in self.papers():
            for k, link in enumerate(told):
                for thing in list(of_other_shapes(link)) + ODD_THINGS + [nested(90)]:
                    if thing not in told[k:]:
                        self.refused("link", k, lets_crossing, surface, ways, (drawing, replaced(told, k, thing)))

    def test_truths_for_numbers(self):
        seen = 0
        for surface, ways, drawing, told in self.papers():
            for k, link in enumerate(told):
                for thing in with_truths(link):
                    self.assertEqual(thing, link)
                    self.refused("link", k, lets_crossing, surface, ways, (drawing, replaced(told, k, thing)))
                    seen += 1
        self.assertGreater(seen, 40)

    def test_links_of_other_numbers(self):
        for surface, ways, drawing, told in self.papers():
            for k, link in enumerate(told):
                for thing in with_other_numbers(ways, link):
                    if thing not in told:
                        self.refused("link", k, lets_crossing, surface, ways, (drawing, replaced(told, k, thing)))

    def test_strands_changed_about(self):
        for surface, ways, drawing, told in self.papers():
            for k, link in enumerate(told):
                thing = (link[0], link[2], link[1]) + link[3:]
                self.assertNotIn(thing, told)
                self.refused("link", k, lets_crossing, surface, ways, (drawing, replaced(told, k, thing)))

    def test_told_from_the_other_end(self):
        seen = 0
        for surface, ways, drawing, told in self.papers():
            for k, link in enumerate(told):
                if link[0] == "against":
                    other = told_from_the_other_end(ways, link)
                    self.assertEqual(told_from_the_other_end(ways, other), link)
                    self.refused("link", k, lets_crossing, surface, ways, (drawing, replaced(told, k, other)))
                    bent = told[:k + 1] + (other,) + told[k + 1:]
                    self.refused("link", k + 1, lets_crossing, surface, ways, (drawing, bent))
                    seen += 1
        self.assertGreater(seen, 5)

    def test_twice(self):
        for surface, ways, drawing, told in self.papers():
            for k, link in enumerate(told):
                self.refused("link", k + 1, lets_crossing, surface, ways, (drawing, told[:k] + (link, link) + told[k + 1:]))
                if k + 1 < len(told):
                    self.refused("link", k + 1, lets_crossing, surface, ways, (drawing, replaced(told, k + 1, link)))
                self.refused("link", len(told), lets_crossing, surface, ways, (drawing, told + (link,)))

    def test_two_changed_about(self):
        for surface, ways, drawing, told in self.papers():
            for one, other in itertools.combinations(range(len(told)), 2):
                bent = replaced(replaced(told, one, told[other]), other, told[one])
                self.refused("link", one + 1, lets_crossing, surface, ways, (drawing, bent))

    def test_some_left_out(self):
        for surface, ways, drawing, told in self.papers():
            for k in range(len(told)):
                self.refused("many", 0, lets_crossing, surface, ways, (drawing, told[:k] + told[k + 1:]))
            self.refused("many", 0, lets_crossing, surface, ways, (drawing, ()))
            self.refused("many", 0, lets_crossing, surface, ways, (drawing, told[::2]))

    def test_one_too_many(self):
        for surface, ways, drawing, told in self.papers():
            for more in (("beside", (0, 0), (0, 1)), ("beside", (9, 9), (9, 9)), None, ("along", (0, 0), (0, 0), 1)):
                if more not in told:
                    self.refused("link", len(told), lets_crossing, surface, ways, (drawing, told + (more,)))
                    self.refused("link", 0, lets_crossing, surface, ways, (drawing, (more,) + told))

    def test_links_of_no_such_ways(self):
        surface, ways = CASES[3]
        told = tuple(all_sought_links(surface, ways))
        for fewer in (ways[:3], ways[:2], ways[:1]):
            drawing = tight(surface, fewer)
            first = min(k for k, link in enumerate(told) if max(link[1][0], link[2][0]) >= len(fewer))
            self.refused("link", first, lets_crossing, surface, fewer, (drawing, told))

    def test_links_of_another_surface(self):
        drawing = tight("abAB", ("aab", "abb"))
        told = tuple(all_sought_links("abAB", ("aab", "abb")))
        other = tuple(all_sought_links("aAbB", ("aab", "abb")))
        self.assertNotEqual(told, other)
        self.let_by(lets_crossing, "abAB", ("aab", "abb"), (drawing, told))
        wrong = min(k for k, link in enumerate(other) if link not in told)
        self.refused("link", wrong, lets_crossing, "abAB", ("aab", "abb"), (drawing, other))

    def test_the_first_that_is_due(self):
        surface, ways, drawing, told = list(self.papers())[1]
        self.assertGreater(len(told), 3)
        loose = max(all_drawings("abAB", ("aab", "b")), key=lambda drawn: len(drawn_crossings("abAB", ("aab", "b"), drawn)))
        self.refused("link", 1, lets_crossing, "abAB", ("aab", "b"), (loose, (("along", (0, 2), (1, 0), 1), None)))
        self.refused("shape", 0, lets_crossing, surface, ways, [drawing, (None,)])
        self.refused("shape", 0, lets_crossing, surface, ways, (drawing[:1], (None,)))
        self.refused("shape", 0, lets_crossing, surface, ways, (drawing, [None]))
        self.refused("link", 0, lets_crossing, surface, ways, (drawing, (None, None) + told))
        self.refused("link", 1, lets_crossing, surface, ways, (drawing, (told[1], told[0], None)))
        self.refused("link", 1, lets_crossing, surface, ways, (drawing, (told[0], None, told[0])))
        self.refused("link", 2, lets_crossing, surface, ways, (drawing, (told[0], told[2], told[1], told[0])))
        self.refused("link", 2, lets_crossing, surface, ways, (drawing, told[:2] + ([],)))
        self.refused("many", 0, lets_crossing, surface, ways, (drawing, told[1:]))

    def test_picked_drawings(self):
        chance = chance_of(36)
        loose = 0
        for turn in range(150):
            surface, ways = picked_case(chance, 14)
            told = tuple(all_sought_links(surface, ways))
            drawing = picked_drawing(chance, surface, ways)
            if len(drawn_crossings(surface, ways, drawing)) == len(told):
                self.let_by(lets_crossing, surface, ways, (drawing, told))
            else:
                self.refused("many", 0, lets_crossing, surface, ways, (drawing, told))
                loose += 1
        self.assertGreater(loose, 50)


class Told(CheckerTest):
    def look(self, surface, ways):
        paper = crossing_paper(surface, ways)
        self.assertIs(type(paper), tuple)
        self.assertEqual([type(part) for part in paper], [tuple, tuple])
        self.let_by(lets_crossing, surface, ways, paper)
        self.assertEqual(list(paper[1]), all_sought_links(surface, ways))
        self.assertEqual(len(paper[1]), len(drawn_crossings(surface, ways, paper[0])))

    def test_cases(self):
        for surface, ways in CASES:
            self.look(surface, ways)

    def test_one_letter(self):
        for surface in ("aA", "Aa"):
            for count in range(1, 5):
                for ways in itertools.product("aA", repeat=count):
                    self.look(surface, ways)

    def test_short_ways(self):
        roots = [word for word in words_up_to(2, 4) if is_root(word)]
        for surface in ("abAB", "bBaA"):
            for one, other in itertools.product(roots[::4], roots[::5]):
                self.look(surface, (one, other))
        for surface in all_surfaces(2):
            self.look(surface, ("aab", "abb", "aB", "BAA"))

    def test_picked_ones(self):
        chance = chance_of(360)
        for turn in range(80):
            self.look(*picked_case(chance, 30))
        for turn in range(3):
            self.look(*picked_case(chance, 60))

    def test_alike_for_long(self):
        for one, other in zip(FIBONACCI, FIBONACCI[1:]):
            self.look("abAB", (one, other))
            self.look("aAbB", (turned(swapped(other), 1), one))
        self.look("abAB", ("aabb", "abba", "BBAA"))

    def test_told_anew_each_time(self):
        chance = chance_of(361)
        surface, ways = picked_surface(chance, 3), picked_ways(chance, 3, 3, 6)
        before = crossing_paper(surface, ways)
        crossing_paper("abAB", (picked_way(chance, 2, 5),))
        self.let_by(lets_crossing, surface, ways, crossing_paper(surface, ways))
        self.let_by(lets_crossing, surface, ways, before)


if __name__ == "__main__":
    unittest.main()
