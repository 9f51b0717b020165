import itertools
import unittest

from ringwords.caps import capped, carried, is_caps
from ringwords.desk import Desk
from ringwords.errors import NoRow, NoSlide, NoThin, NoWay, RingError
from ringwords.holes import handles, holes
from ringwords.judging import judged
from ringwords.links import links
from ringwords.maps import mapped, way_by
from ringwords.nothingchecker import lets_nothing
from ringwords.rings import thick
from ringwords.slides import maps_of, slid
from ringwords.steptexts import read_steps
from ringwords.surfaces import is_way
from tests.helpers import (
    LETTERS, chance_of, doable, picked_same, picked_surface, picked_way, picked_word, swapped, turned)

# Of each row of the interface one or more, with words of their kinds.
ROWS = [
    "surface", "surface abAB", "holes", "handles", "way long abAB", "way x -", "word one", "drop one", "ways", "cross one two",
    "cap 0 1", "cap 9999 9999", "rings", "judge abAB", "judge -", "show aA", "show -", "check aA : out 0", "check - : -",
    "check abBA : out 1; out 0", "slide 0 1", "slide 9999 -1", "back", "same abAB",
]


class DeskTest(unittest.TestCase):
    def desk(self, *rows):
        """A desk that answers all these rows with "ok"."""
        desk = Desk()
        self.does(desk, *rows)
        return desk

    def does(self, desk, *rows):
        for row in rows:
            self.tells(desk, row, "ok")

    def tells(self, desk, row, text):
        told = desk.say(row)
        self.assertIs(type(told), str)
        self.assertEqual(told, text, row)

    def kept(self, desk):
        """All that a desk that has a surface keeps, as far as rows tell it."""
        names = [name for name in desk.say("ways").split(" ") if name != "-"]
        return [desk.say(row) for row in ["surface", "holes", "ways", "rings"] + ["word " + name for name in names]]

    def refused(self, desk, row, kind, field):
        """Looks that the row is refused so, and nothing turns by it."""
        try:
            before = self.kept(desk)
        except NoRow:
            before = None
        with self.assertRaises(RingError) as caught:
            desk.say(row)
        told = caught.exception
        self.assertIs(type(told), kind, row)
        self.assertEqual(vars(told), {{NoRow: "row", NoWay: "name", NoSlide: "place"}[kind]: field}, row)
        if before is None:
            self.assertRaises(NoRow, desk.say, "surface")
        else:
            self.assertEqual(self.kept(desk), before, row)

    def no_row(self, desk, row):
        self.refused(desk, row, NoRow, row)


class Surfaces(DeskTest):
    def test_at_first(self):
        desk = Desk()
        for row in ROWS:
            if row != "surface abAB":
                self.no_row(desk, row)

    def test_surface(self):
        desk = self.desk("surface abAB")
        self.tells(desk, "surface", "abAB")
        self.does(desk, "surface aAbB")
        self.tells(desk, "surface", "aAbB")

    def test_holes_and_handles(self):
        chance = chance_of(56)
        desk = Desk()
        for turn in range(40):
            surface = picked_surface(chance, chance.randint(1, 6))
            self.does(desk, "surface " + surface)
            self.tells(desk, "surface", surface)
            self.tells(desk, "holes", " ".join(holes(surface)))
            self.tells(desk, "handles", str(handles(surface)))
        self.does(desk, "surface abABcC")
        self.tells(desk, "holes", "bcaBA C")
        self.tells(desk, "handles", "1")

    def test_no_surfaces(self):
        for row in ("surface aa", "surface a", "surface abBC", "surface bB", "surface -", "surface aAbBcCdDeEfFgG", "surface ab",
                    "surface abABcd", "surface 0", "surface aAa", "surface Abab"):
            self.no_row(Desk(), row)
            self.no_row(self.desk("surface abAB", "way w a", "cap 0 2"), row)

    def test_a_surface_told_anew_lets_all_go(self):
        desk = self.desk("surface abAB", "way w ab", "cap 0 2", "slide 0 1")
        self.does(desk, "surface bABa")
        self.assertEqual(self.kept(desk), ["bABa", "AbaB", "-", "-"])
        self.refused(desk, "word w", NoWay, "w")
        self.refused(desk, "back", NoSlide, 0)

    def test_the_same_surface_told_anew_too(self):
        desk = self.desk("surface abAB", "way w ab", "cap 0 2", "slide 0 1", "surface abAB")
        self.assertEqual(self.kept(desk), ["abAB", " ".join(holes("abAB")), "-", "-"])
        self.refused(desk, "back", NoSlide, 0)


class Ways(DeskTest):
    def test_kept_and_told(self):
        desk = self.desk("surface abAB")
        self.tells(desk, "ways", "-")
        self.does(desk, "way w ba", "way v abA", "way zzzzzzzz aBAb", "way a b")
        self.tells(desk, "ways", "a v w zzzzzzzz")
        self.tells(desk, "word w", "ab")
        self.tells(desk, "word v", "b")
        self.tells(desk, "word zzzzzzzz", "AbaB")
        self.tells(desk, "word a", "b")

    def test_in_the_place_of_another(self):
        desk = self.desk("surface abAB", "way w ba", "way v a", "way w bA")
        self.tells(desk, "word w", "Ab")
        self.tells(desk, "word v", "a")
        self.tells(desk, "ways", "v w")

    def test_drop(self):
        desk = self.desk("surface abAB", "way w ba", "way v a", "drop w")
        self.tells(desk, "ways", "v")
        self.refused(desk, "word w", NoWay, "w")
        self.refused(desk, "drop w", NoWay, "w")
        self.does(desk, "drop v")
        self.tells(desk, "ways", "-")
        self.does(desk, "way w b")
        self.tells(desk, "word w", "b")

    def test_words_that_are_no_ways(self):
        desk = self.desk("surface abAB", "way w ba")
        for word in ("-", "aA", "aa", "abab", "c", "abc", "F", "a" * 31 + "b", "baaB", "abBA", "aBBA", "bcCa" * 2, "cbbC",
                     "BABA"):
            self.refused(desk, "way w " + word, NoWay, "w")
            self.refused(desk, "way new " + word, NoWay, "new")
        self.tells(desk, "ways", "w")

    def test_letters_beyond_that_are_not_in_the_middle(self):
        desk = self.desk("surface abAB", "way w cbC", "way v dDa")
        self.tells(desk, "word w", "b")
        self.tells(desk, "word v", "a")

    def test_30_letters_and_31(self):
        desk = self.desk("surface abAB", "way w " + "a" * 29 + "b", "way v " + "ab" * 20 + "a" * 29 + "b" + "BA" * 20)
        self.tells(desk, "word w", "a" * 29 + "b")
        self.tells(desk, "word v", "a" * 29 + "b")
        self.refused(desk, "way x " + "a" * 30 + "b", NoWay, "x")
        self.does(desk, "way x " + "ab" * 50 + "aab" + "BA" * 50)
        self.tells(desk, "word x", "aab")

    def test_picked_words(self):
        chance = chance_of(560)
        for turn in range(150):
            many = chance.randint(1, 6)
            surface = picked_surface(chance, many)
            word = picked_word(chance, chance.randint(1, 6), chance.randint(1, 8))
            least = way_by(tuple(LETTERS), word)
            desk = self.desk("surface " + surface)
            if is_way(surface, least):
                self.does(desk, "way w " + word)
                self.tells(desk, "word w", least)
            else:
                self.refused(desk, "way w " + word, NoWay, "w")

    def test_names_that_it_has_not(self):
        desk = self.desk("surface abAB", "way w ba")
        self.refused(desk, "word v", NoWay, "v")
        self.refused(desk, "drop ww", NoWay, "ww")
        self.refused(desk, "cross v w", NoWay, "v")
        self.refused(desk, "cross w v", NoWay, "v")
        self.refused(desk, "cross x v", NoWay, "x")
        self.refused(desk, "cross v v", NoWay, "v")

    def test_names_like_first_words(self):
        desk = self.desk("surface abAB", "way surface a", "way way b", "way drop ab", "way ways aB")
        self.tells(desk, "ways", "drop surface way ways")
        self.tells(desk, "word way", "b")
        self.tells(desk, "cross surface way", "1")
        self.does(desk, "drop drop")
        self.tells(desk, "ways", "surface way ways")

    def test_cross(self):
        desk = self.desk("surface abAB", "way x a", "way y b", "way z aabb", "way again aabb")
        self.tells(desk, "cross x y", "1")
        self.tells(desk, "cross y x", "1")
        self.tells(desk, "cross x x", "0")
        self.tells(desk, "cross z z", "1")
        self.tells(desk, "cross z again", "2")
        self.tells(desk, "cross again again", "1")

    def test_cross_as_links_tell_it(self):
        chance = chance_of(561)
        for turn in range(60):
            many = chance.randint(2, 6)
            surface = picked_surface(chance, many)
            ways = [picked_way(chance, many, chance.randint(1, 9)) for number in range(2)]
            desk = self.desk("surface " + surface, "way one " + ways[0], "way two " + ways[1])
            for i, j in itertools.product((0, 1), repeat=2):
                told = len(links(surface, tuple(ways), min(i, j), max(i, j)))
                self.tells(desk, "cross " + ("one", "two")[i] + " " + ("one", "two")[j], str(told))

    def test_cross_of_30_letters(self):
        ways = ("a" * 29 + "b", "a" * 28 + "bb")
        desk = self.desk("surface aAbB", "way one " + ways[0], "way two " + ways[1])
        self.tells(desk, "cross one two", str(len(links("aAbB", ways, 0, 1))))


class Caps(DeskTest):
    def test_rings(self):
        desk = self.desk("surface abABcC")
        self.tells(desk, "rings", "-")
        self.does(desk, "cap 1 2")
        self.tells(desk, "rings", "CC")
        self.does(desk, "cap 0 1")
        self.tells(desk, "rings", "bcaBA CC")
        self.does(desk, "cap 1 10")
        self.tells(desk, "rings", "bcaBA " + "C" * 10)
        self.does(desk, "cap 1 0")
        self.tells(desk, "rings", "bcaBA")
        self.does(desk, "cap 1 0", "cap 0 0")
        self.tells(desk, "rings", "-")

    def test_refused(self):
        desk = self.desk("surface abABcC", "cap 0 3")
        for row in ("cap 2 1", "cap 2 0", "cap 9999 1", "cap 9999 0", "cap 0 11", "cap 1 11", "cap 0 9999", "cap 3 12"):
            self.refused(desk, row, NoWay, "")
        self.tells(desk, "rings", "bcaBA" * 3)

    def test_a_seventh(self):
        desk = self.desk("surface aAbBcCdDeEfF")
        for hole in (6, 2, 4, 0, 1, 3):
            self.does(desk, "cap " + str(hole) + " 2")
        told = desk.say("rings")
        self.refused(desk, "cap 5 1", NoWay, "")
        self.refused(desk, "cap 5 10", NoWay, "")
        self.does(desk, "cap 5 0")
        self.tells(desk, "rings", told)
        self.does(desk, "cap 4 3", "cap 2 0", "cap 5 1")
        self.tells(desk, "rings", " ".join(capped("aAbBcCdDeEfF", ((0, 2), (1, 2), (3, 2), (4, 3), (5, 1), (6, 2)))))
        self.refused(desk, "cap 2 1", NoWay, "")

    def test_picked_ones(self):
        chance = chance_of(562)
        for turn in range(40):
            surface = picked_surface(chance, chance.randint(1, 6))
            desk = self.desk("surface " + surface)
            wanted = {}
            for number in range(12):
                hole, times = chance.randrange(8), chance.randrange(12)
                row = "cap " + str(hole) + " " + str(times)
                told = dict(wanted)
                told.pop(hole, None)
                if times:
                    told[hole] = times
                if hole >= len(holes(surface)) or times == 11 or (times and not is_caps(surface, tuple(sorted(told.items())))):
                    self.refused(desk, row, NoWay, "")
                else:
                    self.does(desk, row)
                    wanted = told
                self.tells(desk, "rings", " ".join(capped(surface, tuple(sorted(wanted.items())))) or "-")


class Judged(DeskTest):
    def test_without_caps(self):
        desk = self.desk("surface abAB")
        self.tells(desk, "judge -", "nothing")
        self.tells(desk, "judge aA", "nothing")
        self.tells(desk, "judge abAB", "none")
        self.tells(desk, "show abAB", "none")
        self.tells(desk, "show -", "-")
        self.tells(desk, "show aA", "out 0")

    def test_by_caps(self):
        desk = self.desk("surface abABcdCD", "cap 0 1")
        ring = desk.say("rings")
        self.assertEqual(ring, holes("abABcdCD")[0])
        self.tells(desk, "judge " + ring, "nothing")
        self.tells(desk, "judge " + swapped(turned(ring, 3)), "nothing")
        self.tells(desk, "judge a" + ring + "A", "nothing")
        self.tells(desk, "judge " + ring[:5], "none")
        self.does(desk, "cap 0 2")
        self.tells(desk, "judge " + ring, "none")
        self.tells(desk, "judge " + ring * 2, "nothing")

    def test_shown_steps_are_a_paper(self):
        chance = chance_of(563)
        nothing = 0
        for turn in range(80):
            surface = chance.choice(["abABcdCD", "abcdABCD", "aAbBcC", "abABcC"])
            desk = self.desk("surface " + surface)
            caps = []
            for hole in range(len(holes(surface))):
                caps.append((hole, chance.choice([1, 7, 8])))
            caps = tuple(caps)[:chance.randint(0, len(caps))]
            for hole, times in caps:
                self.does(desk, "cap " + str(hole) + " " + str(times))
            rings = capped(surface, caps)
            if thick(rings) is not None:
                continue
            many = len(surface) // 2
            for word in (picked_word(chance, many, 6), self.around(chance, rings, many)):
                told = judged(rings, word)[0]
                self.tells(desk, "judge " + (word or "-"), told)
                shown = desk.say("show " + (word or "-"))
                if told == "none":
                    self.assertEqual(shown, "none")
                else:
                    self.assertIs(lets_nothing(rings, word, read_steps(shown)), True)
                    self.tells(desk, "check " + (word or "-") + " : " + shown, "yes")
                    nothing += 1
        self.assertGreater(nothing, 30)

    def around(self, chance, rings, many):
        """Some word that is nothing by the rings."""
        word = ""
        for turn in range(2):
            part = picked_word(chance, many, 2)
            ring = chance.choice(rings) if rings else "aA"
            word += part + chance.choice([ring, swapped(ring)]) + swapped(part)
        return word

    def test_rings_that_are_not_thin(self):
        desk = self.desk("surface abAB", "cap 0 1")
        rings = capped("abAB", ((0, 1),))
        for row in ("judge a", "show a", "judge -", "show -", "judge abAB", "show aA"):
            with self.assertRaises(NoThin) as caught:
                desk.say(row)
            told = caught.exception
            self.assertEqual((told.turn, told.other, told.piece), thick(rings))
        self.tells(desk, "check aA : out 0", "yes")
        self.tells(desk, "check baBA : ring 0 baBA 4", "yes")
        self.tells(desk, "rings", "baBA")

    def test_letters_beyond(self):
        for desk in (self.desk("surface abAB", "cap 0 1"), self.desk("surface abAB")):
            for word in ("c", "C", "abcC", "f", "cC"):
                for row in ("judge " + word, "show " + word, "check " + word + " : -", "check " + word + " : out 0"):
                    self.no_row(desk, row)

    def test_check(self):
        desk = self.desk("surface abABcdCD", "cap 0 1")
        ring = desk.say("rings")
        self.tells(desk, "check - : -", "yes")
        self.tells(desk, "check a : -", "no")
        self.tells(desk, "check aA : out 0", "yes")
        self.tells(desk, "check aA : out 1", "no")
        self.tells(desk, "check abBA : out 1; out 0", "yes")
        self.tells(desk, "check abBA : out 0; out 1", "no")
        self.tells(desk, "check abBA : out 1", "no")
        self.tells(desk, "check - : in 0 a; out 0", "yes")
        self.tells(desk, "check - : in 0 f; out 0", "yes")
        self.tells(desk, "check " + ring + " : ring 0 " + ring + " 8", "yes")
        self.tells(desk, "check " + ring + " : ring 0 " + ring + " 7", "no")
        self.tells(desk, "check " + ring + " : ring 0 " + ring + " 7; out 0", "yes")
        self.tells(desk, "check " + ring + " : ring 0 " + turned(ring, 1) + " 8", "no")
        self.tells(desk, "check " + ring * 2 + " : ring 8 " + ring + " 8; ring 0 " + ring + " 8", "yes")
        self.tells(desk, "check aA : out 9999", "no")

    def test_check_of_2000_steps_and_2001(self):
        desk = self.desk("surface abAB")
        self.tells(desk, "check - : " + "; ".join(["in 0 a", "out 0"] * 1000), "yes")
        self.tells(desk, "check aA : " + "; ".join(["out 0"] + ["in 0 a", "out 0"] * 1000), "no")

    def test_check_rows_that_are_none(self):
        desk = self.desk("surface abAB")
        for steps in ("", " ", "out", "out 0;", "out 0; ", "; out 0", "out 0;out 0", "out 00", "out -1", "out 12345", "in 0",
                      "in 0 g", "ring 0 ab", "out 0 0", " out 0", "out  0", "out 0 ", "-; out 0", "- ", " -", "Out 0", "out 0 ; out 0"):
            self.no_row(desk, "check aA : " + steps)
        for row in ("check aA", "check aA :", "check aA out 0", "check : out 0", "check aA: out 0", "check aA :out 0",
                    "check aA ; -", "check aA : : -", "check  aA : -", "check aA  : -", "check aA :  -", "check aA - -",
                    "check g : -", "check  : -"):
            self.no_row(desk, row)


class Slid(DeskTest):
    def test_row_ways_and_caps_go_over(self):
        desk = self.desk("surface abAcBC", "way w a", "way v abC", "cap 1 3", "slide 0 1")
        self.tells(desk, "surface", slid("abAcBC", (0, 1)))
        over = maps_of("abAcBC", (0, 1))[0]
        self.tells(desk, "word w", way_by(over, "a"))
        self.tells(desk, "word v", way_by(over, "abC"))
        caps = carried("abAcBC", ((1, 3),), ((0, 1),))
        self.tells(desk, "rings", " ".join(capped(slid("abAcBC", (0, 1)), caps)))

    def test_both_sides(self):
        desk = self.desk("surface abcABC", "slide 3 -1")
        self.tells(desk, "surface", slid("abcABC", (3, -1)))
        desk = self.desk("surface abcABC", "slide 3 1")
        self.tells(desk, "surface", slid("abcABC", (3, 1)))

    def test_that_can_not_be_done(self):
        desk = self.desk("surface aAbB", "way w ab", "cap 1 2")
        for row in ("slide 0 1", "slide 1 -1", "slide 4 1", "slide 4 -1", "slide 9999 1", "slide 2 1"):
            self.refused(desk, row, NoSlide, 0)
        self.refused(desk, "back", NoSlide, 0)

    def test_back(self):
        desk = self.desk("surface abAcBC", "way w aab", "way v abC", "cap 0 3")
        before = self.kept(desk)
        self.does(desk, "slide 0 1")
        self.assertNotEqual(self.kept(desk), before)
        self.does(desk, "back")
        self.assertEqual(self.kept(desk), before)
        self.refused(desk, "back", NoSlide, 0)

    def test_back_to_the_very_row(self):
        chance = chance_of(564)
        for turn in range(40):
            surface = picked_surface(chance, chance.randint(2, 6))
            desk = self.desk("surface " + surface, "way w " + picked_way(chance, len(surface) // 2, 3))
            for hole in range(min(6, len(holes(surface)))):
                self.does(desk, "cap " + str(hole) + " " + str(hole + 1))
            past = []
            for number in range(5):
                past.append(self.kept(desk))
                slide = chance.choice(doable(desk.say("surface")))
                try:
                    self.does(desk, "slide " + str(slide[0]) + " " + str(slide[1]))
                except NoWay:
                    past.pop()
            while past:
                self.does(desk, "back")
                self.assertEqual(self.kept(desk), past.pop())
            self.refused(desk, "back", NoSlide, 0)

    def test_ways_kept_since(self):
        desk = self.desk("surface abcABC", "way w a", "slide 0 1", "way v a", "drop w", "way x bc", "cap 0 2")
        row = desk.say("surface")
        home = maps_of("abcABC", (0, 1))[1]
        there = [mapped(home, word) for word in holes(row)]
        self.does(desk, "back")
        self.tells(desk, "surface", "abcABC")
        self.tells(desk, "ways", "v x")
        self.tells(desk, "word v", way_by(home, "a"))
        self.tells(desk, "word x", "bc")
        least = way_by(tuple(LETTERS), there[0])
        ring = desk.say("rings")
        self.assertIn(ring, [word * 2 for word in holes("abcABC")])
        self.assertEqual(way_by(tuple(LETTERS), ring[:len(ring) // 2]), least)

    def test_more_than_30_letters(self):
        long = "a" * 29 + "c"
        desk = self.desk("surface abcABC", "way x " + long, "way b a", "way m " + "aa" * 13 + "ccc", "cap 1 2")
        over = maps_of("abcABC", (0, 1))[0]
        self.assertGreater(len(way_by(over, long)), 30)
        self.refused(desk, "slide 0 1", NoWay, "m")
        self.does(desk, "drop m")
        self.refused(desk, "slide 0 1", NoWay, "x")
        self.refused(desk, "back", NoSlide, 0)
        self.does(desk, "drop x", "slide 0 1", "back")

    def test_just_30_letters(self):
        # Each a gets a b ahead: 15 of them and as many others make 30 letters, one more makes 31.
        desk = self.desk("surface abcABC", "way fits " + "a" * 14 + "cc", "slide 0 1")
        self.assertEqual(len(desk.say("word fits")), 30)
        desk = self.desk("surface abcABC", "way fits " + "a" * 14 + "ccc")
        self.refused(desk, "slide 0 1", NoWay, "fits")

    def test_back_with_more_than_30_letters(self):
        desk = self.desk("surface abcABC", "way w b", "slide 0 1", "way x " + "a" * 29 + "c", "cap 0 2")
        self.refused(desk, "back", NoWay, "x")
        self.does(desk, "way k " + "aa" * 13 + "ccc")
        self.refused(desk, "back", NoWay, "k")
        self.does(desk, "drop k", "drop x", "back")
        self.tells(desk, "surface", "abcABC")

    def test_a_refused_slide_is_none_to_undo(self):
        desk = self.desk("surface abcABC", "slide 0 1")
        self.refused(desk, "slide 9 1", NoSlide, 0)
        self.does(desk, "back")
        self.refused(desk, "back", NoSlide, 0)

    def test_ways_cross_as_often_as_ever(self):
        chance = chance_of(565)
        for turn in range(30):
            many = chance.randint(2, 6)
            desk = self.desk("surface " + picked_surface(chance, many), "way one " + picked_way(chance, many, 4),
                             "way two " + picked_way(chance, many, 3))
            rows = ("cross one one", "cross one two", "cross two two", "handles")
            before = [desk.say(row) for row in rows]
            for number in range(3):
                slide = chance.choice(doable(desk.say("surface")))
                self.does(desk, "slide " + str(slide[0]) + " " + str(slide[1]))
                self.assertEqual([desk.say(row) for row in rows], before)


class Same(DeskTest):
    def test_same_and_unlike(self):
        desk = self.desk("surface abAB", "way w a")
        self.tells(desk, "same abAB", "same")
        self.tells(desk, "same BAba", "same")
        self.tells(desk, "same aAbB", "unlike")
        self.tells(desk, "surface", "abAB")
        self.tells(desk, "ways", "w")

    def test_picked_ones(self):
        chance = chance_of(566)
        for turn in range(60):
            many = chance.randint(1, 5)
            one, other = picked_surface(chance, many), picked_surface(chance, many)
            desk = self.desk("surface " + one)
            self.tells(desk, "same " + other, "same" if len(holes(one)) == len(holes(other)) else "unlike")
            self.tells(desk, "same " + picked_same(chance, one, 4)[0], "same")

    def test_other_letters_and_six(self):
        desk = self.desk("surface abAB")
        for row in ("same aA", "same abcABC", "same abcdefABCDEF"):
            self.no_row(desk, row)
        desk = self.desk("surface abcdefABCDEF")
        for row in ("same abcdefABCDEF", "same aA", "same abcdeABCDE"):
            self.no_row(desk, row)


class Spoilt(DeskTest):
    def desks(self):
        return [Desk(), self.desk("surface abAB", "way one a", "way two b", "cap 0 1"),
                self.desk("surface abAcBC", "way one ab", "cap 0 2", "slide 0 1")]

    def test_a_word_more_or_fewer(self):
        for desk in self.desks():
            for row in ROWS:
                if not row.startswith("check"):
                    for more in (" a", " 0", " -", " one", " abAB", " :", " ?"):
                        if row + more not in ("surface abAB",):
                            self.no_row(desk, row + more)
                parts = row.split(" ")
                fewer = " ".join(parts[:-1])
                if fewer not in ROWS and not row.startswith("check"):
                    self.no_row(desk, fewer)
                if len(parts) > 2:
                    self.no_row(desk, " ".join(parts[:1] + parts[2:]))

    def test_words_without_signs_and_blanks(self):
        for desk in self.desks():
            self.no_row(desk, "")
            self.no_row(desk, " ")
            self.no_row(desk, "  ")
            for row in ROWS:
                self.no_row(desk, " " + row)
                self.no_row(desk, row + " ")
                self.no_row(desk, row + "\n")
                self.no_row(desk, row + "\t")
                self.no_row(desk, row.replace(" ", "  ", 1) if " " in row else row + "  ")
                parts = row.split(" ")
                for place in range(1, len(parts)):
                    self.no_row(desk, " ".join(parts[:place] + [""] + parts[place + 1:]))
                    self.no_row(desk, " ".join(parts[:place]) + "\t" + " ".join(parts[place:]))

    def test_first_words(self):
        for desk in self.desks():
            for row in ROWS:
                first, blank, rest = row.partition(" ")
                for other in (first.upper(), first.capitalize(), first + "s", first[:-1], "x" + first, "?", "", "-", "0"):
                    if other not in ("ways", "way"):
                        self.no_row(desk, other + blank + rest)

    def test_numbers(self):
        for desk in self.desks():
            for number in ("00", "01", "-0", "-1", "-", "+1", "1.0", "12345", "10000", "a", "0x1", "1e1", "1_0", "one", ":",
                           "0000"):
                self.no_row(desk, "cap " + number + " 1")
                self.no_row(desk, "cap 0 " + number)
                self.no_row(desk, "slide " + number + " 1")

    def test_sides(self):
        for desk in self.desks():
            for side in ("0", "2", "-2", "01", "-01", "+1", "--1", "1-", "-", "a", "11", "-11", "10", "-10"):
                self.no_row(desk, "slide 0 " + side)

    def test_names(self):
        for desk in self.desks():
            for name in ("A", "aB", "abcdefghi", "a1", "1", "a-", "-", "a_b", "?", ":", "Zzzz", "abcdefgH", "~"):
                for row in ("way " + name + " a", "word " + name, "drop " + name, "cross " + name + " one", "cross one " + name):
                    self.no_row(desk, row)

    def test_names_of_eight_signs_and_one(self):
        desk = self.desk("surface abAB")
        self.does(desk, "way abcdefgh a", "way z b", "way azbycxdw ab")
        self.tells(desk, "ways", "abcdefgh azbycxdw z")

    def test_words(self):
        for desk in self.desks():
            for word in ("g", "G", "a1", "a-", "--", "?", "0", "-a", "ab?", "aBg"):
                for row in ("way one " + word, "judge " + word, "show " + word, "check " + word + " : -"):
                    self.no_row(desk, row)

    def test_rows(self):
        for desk in self.desks():
            for row in ("aa", "a", "A", "-", "abBC", "abAb", "bB", "gG", "aAbBcCdDeEfFgG", "0", "abABa"):
                self.no_row(desk, "surface " + row)
                self.no_row(desk, "same " + row)

    def test_rows_ahead_of_ways(self):
        # What is no row is told ahead of a name that it has not, and of all else.
        desk = self.desk("surface abAB", "cap 0 1")
        for row in ("cross none None", "cross None none", "word none none", "drop none ", "way none g", "cap 9 01", "slide 9 2",
                    "judge g", "same abc"):
            self.no_row(desk, row)
        self.refused(desk, "cross none nil", NoWay, "none")

    def test_no_surface_ahead_of_ways(self):
        for row in ("word none", "drop none", "cross none nil", "way none -", "cap 9 11", "slide 9 1", "back", "judge f",
                    "same aA"):
            self.no_row(Desk(), row)


class Desks(DeskTest):
    def test_two_by_turns(self):
        one, other = self.desk("surface abAB"), self.desk("surface aAbB")
        self.does(one, "way w a", "cap 0 2")
        self.tells(other, "ways", "-")
        self.tells(other, "rings", "-")
        self.does(other, "way w ab", "way v b", "cap 2 1")
        self.does(one, "slide 0 1")
        self.tells(other, "surface", "aAbB")
        self.refused(other, "back", NoSlide, 0)
        self.tells(other, "word w", "ab")
        self.does(one, "back", "drop w")
        self.tells(other, "ways", "v w")
        self.tells(one, "ways", "-")
        self.tells(one, "rings", holes("abAB")[0] * 2)
        self.does(other, "surface aA")
        self.tells(one, "surface", "abAB")
        self.no_row(Desk(), "surface")

    def test_many_rows_as_a_plain_keeper_says(self):
        for seed in range(12):
            self.walk(chance_of(567 + seed))

    def walk(self, chance):
        """Picked rows, answered as the modules' own functions tell it."""
        many = chance.randint(2, 5)
        surface = picked_surface(chance, many)
        desk = self.desk("surface " + surface)
        words, caps, past = {}, {}, []
        for turn in range(60):
            row = self.picked_row(chance, many, surface)
            parts = row.split(" ")
            if parts[0] == "way":
                least = way_by(tuple(LETTERS), parts[2])
                if is_way(surface, least):
                    self.does(desk, row)
                    words[parts[1]] = least
                else:
                    self.refused(desk, row, NoWay, parts[1])
            elif parts[0] == "drop":
                if parts[1] in words:
                    self.does(desk, row)
                    words.pop(parts[1])
                else:
                    self.refused(desk, row, NoWay, parts[1])
            elif parts[0] == "cap":
                self.does(desk, row)
                caps.pop(int(parts[1]), None)
                if parts[2] != "0":
                    caps[int(parts[1])] = int(parts[2])
            else:
                surface, words, caps = self.walk_on(desk, row, surface, words, caps, past)
            wanted = " ".join(capped(surface, tuple(sorted(caps.items())))) or "-"
            self.assertEqual(self.kept(desk), [surface, " ".join(holes(surface)), " ".join(sorted(words)) or "-", wanted]
                             + [words[name] for name in sorted(words)])

    def picked_row(self, chance, many, surface):
        kind = chance.choice(["way", "way", "drop", "cap", "slide", "slide", "slide", "back"])
        if kind == "way":
            return "way " + chance.choice("uvw") + " " + picked_word(chance, many, chance.randint(1, 6))
        if kind == "drop":
            return "drop " + chance.choice("uvw")
        if kind == "cap":
            return "cap " + str(chance.randrange(len(holes(surface)))) + " " + str(chance.randint(0, 10))
        if kind == "slide":
            return "slide " + str(chance.randrange(2 * many + 1)) + " " + chance.choice(["1", "-1"])
        return "back"

    def walk_on(self, desk, row, surface, words, caps, past):
        """What comes of a row that slides, or slides back."""
        parts = row.split(" ")
        if parts[0] == "back":
            if not past:
                self.refused(desk, row, NoSlide, 0)
                return surface, words, caps
            there, change = past[-1]
        else:
            slide = (int(parts[1]), int(parts[2]))
            if slide not in doable(surface):
                self.refused(desk, row, NoSlide, 0)
                return surface, words, caps
            there, change = slid(surface, slide), maps_of(surface, slide)[0]
        gone = {name: way_by(change, word) for name, word in words.items()}
        long = sorted(name for name, word in gone.items() if len(word) > 30)
        if long:
            self.refused(desk, row, NoWay, long[0])
            return surface, words, caps
        self.does(desk, row)
        if parts[0] == "back":
            past.pop()
        else:
            past.append((surface, maps_of(surface, slide)[1]))
        around = {way_by(tuple(LETTERS), word): hole for hole, word in enumerate(holes(there))}
        moved = {around[way_by(change, holes(surface)[hole])]: times for hole, times in caps.items()}
        return there, gone, moved


if __name__ == "__main__":
    unittest.main()
