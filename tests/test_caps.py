import copy
import unittest

from ringwords.caps import capped, carried, is_caps
from ringwords.errors import NoSlide
from ringwords.holes import holes
from ringwords.maps import mapped
from ringwords.rings import is_rings
from ringwords.slides import slid, told_by
from ringwords.turning import turning
from tests.helpers import (
    ODD_THINGS, all_surfaces, cancelled, chance_of, doable, nested, picked_slides, picked_surface, replaced,
    slid_by_words, turned)

SEVEN_HOLES = "aAbBcCdDeEfF"


def picked_caps(chance, surface):
    """Some caps of the surface, perhaps none."""
    count = len(holes(surface))
    chosen = sorted(chance.sample(range(count), chance.randint(0, min(6, count))))
    return tuple((hole, chance.randint(1, 10)) for hole in chosen)


def least_middle(word):
    """The least turn of the middle of what a word is reduced to."""
    word = cancelled(word)
    while word and word[0] == word[-1].swapcase():
        word = word[1:-1]
    return min(turned(word, place) for place in range(len(word)))


def carried_by_words(surface, caps, slides):
    """Where caps go over, by the words of point 55 and the map of all slides together."""
    row, over, home = told_by(surface, slides)
    there = [least_middle(word) for word in holes(row)]
    told = []
    for hole, times in caps:
        word = least_middle(mapped(over, holes(surface)[hole]))
        assert there.count(word) == 1
        told.append((there.index(word), times))
    return tuple(sorted(told))


class Kinds(unittest.TestCase):
    def no_caps(self, surface, thing):
        kept = copy.deepcopy(thing)
        self.assertIs(is_caps(surface, thing), False, (surface, thing))
        self.assertEqual(repr(thing), repr(kept))

    def test_caps(self):
        for surface, thing in (("aA", ()), ("aA", ((0, 1),)), ("aA", ((1, 10),)), ("aA", ((0, 3), (1, 3))), ("abAB", ((0, 7),)),
                               ("aAbB", ((0, 1), (1, 2), (2, 3))), ("aAbB", ((2, 1),)), ("aAbB", ((0, 9), (2, 9)))):
            self.assertIs(is_caps(surface, thing), True)

    def test_none_and_six_and_seven(self):
        self.assertEqual(len(holes(SEVEN_HOLES)), 7)
        seven = tuple((hole, 1) for hole in range(7))
        for count in range(7):
            self.assertIs(is_caps(SEVEN_HOLES, seven[:count]), True)
            self.assertIs(is_caps(SEVEN_HOLES, seven[1:count + 1]), True)
        self.no_caps(SEVEN_HOLES, seven)
        for left in range(7):
            self.assertIs(is_caps(SEVEN_HOLES, seven[:left] + seven[left + 1:]), True)

    def test_picked_ones(self):
        chance = chance_of(55)
        for turn in range(150):
            surface = picked_surface(chance, chance.randint(1, 6))
            self.assertIs(is_caps(surface, picked_caps(chance, surface)), True)

    def test_holes_that_are_none(self):
        for surface in ("aA", "abAB", "aAbB", "abcABC", SEVEN_HOLES):
            count = len(holes(surface))
            for hole in (-1, -count, count, count + 1, 10 ** 39, -10 ** 39):
                self.no_caps(surface, ((hole, 1),))
                self.no_caps(surface, ((0, 1), (hole, 1)))

    def test_twice_and_not_rising(self):
        self.no_caps("aAbB", ((0, 1), (0, 1)))
        self.no_caps("aAbB", ((0, 1), (0, 2)))
        self.no_caps("aAbB", ((1, 1), (0, 1)))
        self.no_caps("aAbB", ((0, 1), (2, 1), (1, 1)))
        self.no_caps("aAbB", ((1, 1), (0, 5), (2, 1)))
        self.no_caps("aAbB", ((0, 1), (1, 1), (1, 1)))
        self.no_caps("aAbB", ((2, 1), (1, 1), (0, 1)))

    def test_times(self):
        for times in range(-2, 14):
            self.assertIs(is_caps("aAbB", ((0, 2), (2, times))), 1 <= times <= 10)
            self.assertIs(is_caps("aAbB", ((0, times), (2, 2))), 1 <= times <= 10)
        self.no_caps("aAbB", ((0, 10 ** 39),))

    def test_truths(self):
        for thing in (((False, 1),), ((True, 1),), ((0, True),), ((0, 1), (True, 1)), ((0, 1), (1, True)), ((0, False),)):
            self.no_caps("aAbB", thing)

    def test_other_kinds(self):
        caps = ((0, 1), (2, 3))
        for thing in [
                list(caps), [], {}, dict(caps), None, "", 0, True, (0, 1), (caps,), ((0, 1), [2, 3]), ([0, 1], (2, 3)),
                ((0, 1, 1), (2, 3)), ((0,), (2, 3)), ((0, 1), ()), ((0, 1), None), ((0, 1), 2), ((0, "1"), (2, 3)),
                (("0", 1), (2, 3)), ((0, None), (2, 3)), ((None, 1), (2, 3)), ((0, (1,)), (2, 3)), ((0, 1), {2: 3}),
                caps + (None,), caps + ((),), nested(100), ("01", "23")]:
            self.no_caps("aAbB", thing)
        for thing in ODD_THINGS:
            self.no_caps("aAbB", thing)
            for place in (0, 1):
                self.no_caps("aAbB", replaced(caps, place, thing))
                if thing not in (0, 1, 2, 10) or isinstance(thing, bool):
                    self.no_caps("aAbB", replaced(caps, 1, replaced(caps[1], place, thing)))


class Rings(unittest.TestCase):
    def test_told_ones(self):
        self.assertEqual(capped("aA", ()), ())
        self.assertEqual(capped("aA", ((0, 1), (1, 3))), ("A", "aaa"))
        self.assertEqual(capped("abAB", ((0, 2),)), ("baBAbaBA",))
        self.assertEqual(capped("abABcC", ((0, 1), (1, 4))), ("bcaBA", "CCCC"))
        self.assertEqual(capped("abABcC", ((1, 10),)), ("C" * 10,))

    def test_picked_ones(self):
        chance = chance_of(550)
        for turn in range(150):
            surface = picked_surface(chance, chance.randint(1, 6))
            caps = picked_caps(chance, surface)
            told = capped(surface, caps)
            self.assertIs(type(told), tuple)
            self.assertIs(is_rings(told), True)
            self.assertEqual(told, tuple(holes(surface)[hole] * times for hole, times in caps))

    def test_as_long_as_can_be(self):
        surface = "abABcdCDefEF"
        self.assertEqual(len(capped(surface, ((0, 10),))[0]), 120)
        self.assertIs(is_rings(capped(surface, ((0, 10),))), True)


class Carried(unittest.TestCase):
    def look(self, surface, caps, slides):
        kept = copy.deepcopy((surface, caps, slides))
        told = carried(surface, caps, slides)
        self.assertEqual((surface, caps, slides), kept)
        self.assertEqual([type(told)] + [type(cap) for cap in told], [tuple] * (1 + len(told)))
        self.assertEqual({type(number) for cap in told for number in cap} | {int}, {int})
        self.assertEqual(told, carried_by_words(surface, caps, slides), (surface, caps, slides))
        return told

    def test_told_ones(self):
        self.assertEqual(self.look("aAbB", ((0, 2),), ((1, 1),)), ((0, 2),))
        self.assertEqual(carried("aA", ((0, 2), (1, 3)), ()), ((0, 2), (1, 3)))

    def test_every_hole_and_every_slide(self):
        chance = chance_of(551)
        moved = 0
        surfaces = all_surfaces(2) + all_surfaces(3)[::31] + [picked_surface(chance, many) for many in (4, 5, 6) * 3]
        for surface in surfaces:
            count = len(holes(surface))
            for slide in doable(surface):
                row = slid(surface, slide)
                alone = [self.look(surface, ((hole, 3),), (slide,)) for hole in range(count)]
                self.assertEqual(sorted(cap[0][0] for cap in alone), list(range(count)))
                moved += [cap[0][0] for cap in alone] != list(range(count))
                for hole, cap in enumerate(alone):
                    word = mapped(told_by(surface, (slide,))[1], holes(surface)[hole])
                    self.assertEqual(turning(word, holes(row)[cap[0][0]])[0], "alike")
                    self.assertEqual(cap[0][1], 3)
        self.assertGreater(moved, 20)

    def test_none(self):
        for surface in ("aA", "abAB", SEVEN_HOLES):
            for slides in ((), []):
                self.assertEqual(carried(surface, (), slides), ())
                self.assertEqual(carried(surface, ((0, 4),), slides), ((0, 4),))
        self.assertEqual(carried("abAB", (), ((0, 1),)), ())

    def test_several(self):
        chance = chance_of(552)
        for turn in range(120):
            surface = picked_surface(chance, chance.randint(2, 6))
            slides = picked_slides(chance, surface, chance.randint(1, 7))
            caps = picked_caps(chance, surface)
            told = self.look(surface, caps, slides)
            self.assertEqual(carried(surface, caps, tuple(slides)), told)
            self.assertIs(is_caps(told_by(surface, slides)[0], told), True)

    def test_part_by_part(self):
        chance = chance_of(553)
        for turn in range(40):
            surface = picked_surface(chance, chance.randint(2, 6))
            slides = picked_slides(chance, surface, 6)
            caps = picked_caps(chance, surface)
            for part in range(7):
                row = told_by(surface, slides[:part])[0]
                there = carried(surface, caps, slides[:part])
                self.assertEqual(carried(row, there, slides[part:]), carried(surface, caps, slides))

    def test_home_again(self):
        chance = chance_of(554)
        seen = 0
        for turn in range(200):
            surface = picked_surface(chance, chance.randint(2, 6))
            slide = chance.choice(doable(surface))
            row = slid_by_words(surface, slide)
            home = (row.index(surface[slide[0]]), -slide[1])
            if home in doable(row) and slid_by_words(row, home) == surface:
                caps = picked_caps(chance, surface)
                self.assertEqual(carried(surface, caps, (slide, home)), caps)
                seen += 1
        self.assertGreater(seen, 100)

    def test_one_that_can_not_be_done(self):
        chance = chance_of(555)
        for turn in range(60):
            surface = picked_surface(chance, chance.randint(1, 6))
            caps = picked_caps(chance, surface)
            slides = picked_slides(chance, surface, 4)
            for k in range(len(slides) + 1):
                row = told_by(surface, slides[:k])[0]
                wrong = [(-1, 1), (len(row), 1), (10 ** 39, -1)]
                wrong += [(place, side) for place in range(len(row)) for side in (1, -1) if (place, side) not in doable(row)]
                bent = slides[:k] + [chance.choice(wrong)] + slides[k:] + [(-1, 1)]
                with self.assertRaises(NoSlide) as caught:
                    carried(surface, caps, bent)
                self.assertEqual(caught.exception.place, k)
                with self.assertRaises(NoSlide) as caught:
                    carried(surface, (), tuple(bent))
                self.assertEqual(caught.exception.place, k)

    def test_sixteen(self):
        chance = chance_of(556)
        for turn in range(8):
            surface = picked_surface(chance, chance.randint(2, 6))
            self.look(surface, picked_caps(chance, surface), picked_slides(chance, surface, 16))


if __name__ == "__main__":
    unittest.main()
