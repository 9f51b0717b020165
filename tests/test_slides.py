import copy
import itertools
import unittest

from ringwords.errors import NoSlide
from ringwords.holes import handles, holes
from ringwords.links import links
from ringwords.maps import is_map, mapped, then, way_by
from ringwords.slides import maps_of, slid, told_by
from ringwords.surfaces import is_surface
from ringwords.turning import turning
from tests.helpers import (
    LETTERS, all_surfaces, cancelled, chance_of, doable, picked_slides, picked_surface, picked_way, picked_word,
    slid_by_words, turned, words_up_to)


def over_by_words(surface, slide, word):
    """The word with f and then e for each letter e, and the back of both for each back of e; reduced."""
    end = surface[slide[0]]
    beside = surface[(slide[0] + slide[1]) % len(surface)]
    made = {end: beside + end, end.swapcase(): end.swapcase() + beside.swapcase()}
    return cancelled("".join(made.get(letter, letter) for letter in word))


def surfaces_of_all_sizes(chance):
    """All surfaces of one letter, of two, and some of each greater number."""
    told = all_surfaces(1) + all_surfaces(2) + all_surfaces(3)[::29]
    for many in (4, 5, 6):
        told += [picked_surface(chance, many) for turn in range(8)]
    return told


class SlideTest(unittest.TestCase):
    def refused(self, number, ask, *things):
        kept = copy.deepcopy(things)
        with self.assertRaises(NoSlide) as caught:
            ask(*things)
        self.assertEqual(caught.exception.place, number, things)
        self.assertIs(type(caught.exception.place), int)
        self.assertEqual(things, kept)


class One(SlideTest):
    def test_told_ones(self):
        self.assertEqual(slid("abAB", (0, 1)), "bABa")
        self.assertEqual(slid("abAB", (0, -1)), "abAB")
        self.assertEqual(slid("aAbB", (1, 1)), "abBA")
        self.assertEqual(slid("aAbB", (0, -1)), "AabB")
        self.assertEqual(slid("abBA", (0, 1)), "bBaA")
        self.assertEqual(slid("abAcBC", (1, 1)), "abAcBC")
        self.assertEqual(slid("abAcBC", (1, -1)), "abAcBC")
        self.assertEqual(slid("abAcBC", (0, 1)), "bAcBaC")
        self.assertEqual(slid("abAcBC", (3, 1)), "abcABC")

    def test_maps_of_told_ones(self):
        self.assertEqual(maps_of("abAB", (0, 1)), (("ba", "b"), ("Ba", "b")))
        self.assertEqual(maps_of("abAB", (0, -1)), (("Ba", "b"), ("ba", "b")))
        self.assertEqual(maps_of("abAB", (2, 1)), (("ab", "b"), ("aB", "b")))
        self.assertEqual(maps_of("abcCAB", (3, 1)), (("a", "b", "ca"), ("a", "b", "cA")))

    def test_every_place_and_both_sides(self):
        chance = chance_of(51)
        seen = set()
        for surface in surfaces_of_all_sizes(chance):
            for place, side in itertools.product(range(len(surface)), (1, -1)):
                if (place, side) in doable(surface):
                    self.look_at_slide(surface, (place, side))
                    seen.add((len(surface), place, side))
                else:
                    self.refused(0, slid, surface, (place, side))
                    self.refused(0, maps_of, surface, (place, side))
        self.assertEqual(len(seen), 2 * (4 + 6 + 8 + 10 + 12))

    def look_at_slide(self, surface, slide):
        row = slid(surface, slide)
        self.assertEqual(row, slid_by_words(surface, slide), (surface, slide))
        self.assertIs(is_surface(row), True)
        self.assertEqual(len(row), len(surface))
        told = maps_of(surface, slide)
        self.assertEqual([type(told)] + [type(part) for part in told], [tuple] * 3)
        many = len(surface) // 2
        end = surface[slide[0]]
        beside = surface[(slide[0] + slide[1]) % len(surface)]
        self.assertEqual(mapped(told[0], end), beside + end)
        self.assertEqual(mapped(told[1], end), beside.swapcase() + end)
        for change in told:
            self.assertIs(is_map(many, change), True)
            for letter in LETTERS[:many]:
                if letter != end.lower():
                    self.assertEqual(mapped(change, letter), letter)
        self.assertEqual(then(told[0], told[1]), tuple(LETTERS[:many]))
        self.assertEqual(then(told[1], told[0]), tuple(LETTERS[:many]))

    def test_an_end_beside_its_back(self):
        for surface in ("aA", "Aa"):
            for place, side in itertools.product((0, 1), (1, -1)):
                self.refused(0, slid, surface, (place, side))
                self.refused(0, maps_of, surface, (place, side))
                self.refused(0, told_by, surface, ((place, side),))
        for surface, slide in (("aAbB", (0, 1)), ("aAbB", (1, -1)), ("abBA", (0, -1)), ("abBA", (3, 1)), ("abBA", (1, 1))):
            self.refused(0, slid, surface, slide)
            self.refused(0, maps_of, surface, slide)

    def test_places_that_are_none(self):
        for surface in ("aA", "abAB", "aAbB", "abcABC", "abcdefABCDEF"):
            size = len(surface)
            for place in (-1, -2, -size, -size - 1, size, size + 1, 2 * size, 10 ** 39, -10 ** 39):
                for side in (1, -1):
                    self.refused(0, slid, surface, (place, side))
                    self.refused(0, maps_of, surface, (place, side))
                    self.refused(0, told_by, surface, ((place, side),))
                    self.refused(0, told_by, surface, [(place, side)])

    def test_words_over_and_home(self):
        chance = chance_of(510)
        for turn in range(200):
            many = chance.randint(2, 6)
            surface = picked_surface(chance, many)
            slide = chance.choice(doable(surface))
            over, home = maps_of(surface, slide)
            word = picked_word(chance, many, chance.randint(0, 20))
            self.assertEqual(mapped(over, word), over_by_words(surface, slide, word))
            self.assertEqual(mapped(home, mapped(over, word)), cancelled(word))
            self.assertEqual(mapped(over, mapped(home, word)), cancelled(word))


class Rows(SlideTest):
    def test_none(self):
        for surface in ("aA", "bABa", "abcdefABCDEF"):
            many = len(surface) // 2
            for slides in ((), []):
                self.assertEqual(told_by(surface, slides), (surface, tuple(LETTERS[:many]), tuple(LETTERS[:many])))

    def test_one(self):
        chance = chance_of(511)
        for surface in surfaces_of_all_sizes(chance):
            for slide in doable(surface):
                told = (slid(surface, slide),) + maps_of(surface, slide)
                self.assertEqual(told_by(surface, (slide,)), told)
                self.assertEqual(told_by(surface, [slide]), told)

    def test_several(self):
        chance = chance_of(512)
        for turn in range(120):
            many = chance.randint(2, 6)
            surface = picked_surface(chance, many)
            slides = picked_slides(chance, surface, chance.randint(2, 8))
            kept = list(slides)
            told = told_by(surface, slides)
            self.assertEqual(slides, kept)
            self.assertEqual(told_by(surface, tuple(slides)), told)
            self.assertEqual([type(part) for part in (told,) + told], [tuple, str, tuple, tuple])
            self.look_at_row(surface, slides, told, [picked_word(chance, many, 8) for number in range(4)])

    def look_at_row(self, surface, slides, told, some):
        many = len(surface) // 2
        row = surface
        gone = list(LETTERS[:many]) + some
        for slide in slides:
            gone = [over_by_words(row, slide, word) for word in gone]
            row = slid_by_words(row, slide)
        self.assertEqual(told[0], row)
        self.assertEqual(told[1], tuple(gone[:many]))
        self.assertEqual([mapped(told[1], word) for word in some], gone[many:])
        self.assertEqual([mapped(told[2], word) for word in gone], list(LETTERS[:many]) + [cancelled(word) for word in some])
        self.assertEqual(then(told[1], told[2]), tuple(LETTERS[:many]))
        self.assertEqual(then(told[2], told[1]), tuple(LETTERS[:many]))

    def test_sixteen(self):
        chance = chance_of(513)
        for turn in range(10):
            surface = picked_surface(chance, chance.randint(2, 6))
            slides = picked_slides(chance, surface, 16)
            told = told_by(surface, slides)
            self.assertEqual(then(told[1], told[2]), tuple(LETTERS[:len(surface) // 2]))
            self.assertEqual(told[0], self.row_behind(surface, slides))

    def test_sixteen_by_which_words_grow(self):
        # Each of both leaves the row, and by turns they make words longer and longer.
        slides = ((3, 1), (0, -1)) * 8
        row, over, home = told_by("bABa", slides)
        self.assertEqual(row, "bABa")
        self.assertEqual([len(word) for word in over], [2584, 1597])
        long = way_by(over, "ab" * 14 + "ba")
        self.assertEqual(len(long), 15 * (2584 + 1597))
        some = [turned(long, place) for place in range(0, len(long), 997)]
        self.assertEqual(min(some), long)
        row, over, home = told_by("bABa", slides[:8])
        self.assertEqual([mapped(home, word) for word in over], ["a", "b"])
        self.assertEqual([mapped(over, word) for word in home], ["a", "b"])
        self.assertEqual(way_by(home, way_by(over, "ab" * 14 + "ba")), "a" + "ab" * 14 + "b")

    def row_behind(self, surface, slides):
        for slide in slides:
            surface = slid_by_words(surface, slide)
        return surface

    def test_two_rows_are_one(self):
        chance = chance_of(514)
        for turn in range(60):
            surface = picked_surface(chance, chance.randint(2, 6))
            slides = picked_slides(chance, surface, 7)
            for part in range(8):
                first = told_by(surface, slides[:part])
                second = told_by(first[0], slides[part:])
                together = (second[0], then(first[1], second[1]), then(second[2], first[2]))
                self.assertEqual(told_by(surface, slides), together)

    def test_the_first_that_can_not_be_done(self):
        chance = chance_of(515)
        last = 0
        for turn in range(120):
            surface = picked_surface(chance, chance.randint(2, 6))
            slides = picked_slides(chance, surface, 6)
            for k in range(len(slides) + 1):
                row = self.row_behind(surface, slides[:k])
                wrong = [(-1, 1), (len(surface), -1), (10 ** 39, 1)]
                wrong += [(place, side) for place in range(len(row)) for side in (1, -1) if (place, side) not in doable(row)]
                bent = slides[:k] + [chance.choice(wrong)] + slides[k:]
                self.refused(k, told_by, surface, bent)
                self.refused(k, told_by, surface, tuple(bent) + ((-1, 1),))
                last += k == len(slides)
        self.assertGreater(last, 100)

    def test_one_that_could_be_done_at_first(self):
        # The row turns by the slides ahead: what could be done on the first one can't be done any more.
        self.assertEqual(slid("abBA", (0, 1)), "bBaA")
        self.refused(1, told_by, "abBA", ((0, 1), (0, 1)))
        self.assertEqual(slid("abBA", (2, 1)), "aBbA")
        self.refused(1, told_by, "abBA", ((2, 1), (2, -1)))
        self.refused(2, told_by, "abBA", [(2, 1), (0, 1), (0, 1)])


class Kept(SlideTest):
    """What point 5 promises of surfaces told otherwise."""

    def test_handles_and_holes(self):
        chance = chance_of(516)
        for surface in surfaces_of_all_sizes(chance):
            for slide in doable(surface):
                row = slid(surface, slide)
                self.assertEqual(len(holes(row)), len(holes(surface)))
                self.assertEqual(handles(row), handles(surface))

    def test_words_around_holes(self):
        chance = chance_of(517)
        for surface in surfaces_of_all_sizes(chance):
            for slide in doable(surface):
                self.look_at_holes(surface, [slide])
            self.look_at_holes(surface, picked_slides(chance, surface, 6))

    def look_at_holes(self, surface, slides):
        row, over, home = told_by(surface, slides)
        there = [way_by(over, word) for word in holes(surface)]
        here = [way_by(tuple(LETTERS[:len(row) // 2]), word) for word in holes(row)]
        self.assertEqual(sorted(there), sorted(here), (surface, slides))
        for word in holes(surface):
            alike = [turning(mapped(over, word), other)[0] for other in holes(row)]
            self.assertEqual(alike.count("alike"), 1)
        for word in holes(row):
            alike = [turning(mapped(home, word), other)[0] for other in holes(surface)]
            self.assertEqual(alike.count("alike"), 1)

    def test_how_often_ways_cross(self):
        chance = chance_of(518)
        crossing = 0
        for turn in range(150):
            many = chance.randint(2, 6)
            surface = picked_surface(chance, many)
            ways = (picked_way(chance, many, chance.randint(1, 7)), picked_way(chance, many, chance.randint(1, 7)))
            row, over, home = told_by(surface, picked_slides(chance, surface, chance.randint(1, 3)))
            there = tuple(way_by(over, way) for way in ways)
            for i, j in ((0, 0), (0, 1), (1, 1)):
                told = len(links(surface, ways, i, j))
                self.assertEqual(len(links(row, there, i, j)), told, (surface, ways, row, there, i, j))
                crossing += told
            self.assertEqual([way_by(home, way) for way in there],
                             [min(turned(way, place) for place in range(len(way))) for way in ways])
        self.assertGreater(crossing, 100)

    def test_short_ways_and_each_slide(self):
        for surface in ("abAB", "aAbB", "abcABC", "abAcBC"):
            some = [word for word in words_up_to(len(surface) // 2, 2) if cancelled(word * 3) == word * 3 and word]
            roots = [word for word in some if len(set(word)) == len(word)]
            for slide in doable(surface):
                row = slid(surface, slide)
                over = maps_of(surface, slide)[0]
                for one, other in itertools.product(roots[::2], roots[::3]):
                    there = (way_by(over, one), way_by(over, other))
                    self.assertEqual(len(links(row, there, 0, 1)), len(links(surface, (one, other), 0, 1)))


if __name__ == "__main__":
    unittest.main()
