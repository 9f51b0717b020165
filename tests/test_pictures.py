import copy
import unittest

from ringwords.pictures import is_picture, picture_of, words_of
from tests.helpers import (
    BIG, LETTERS, ODD_THINGS, all_drawings, chance_of, drawn_points, nested, picked_case, picked_drawing, picked_surface,
    picked_way, replaced, swapped, turned)


def picked_joins(chance, size):
    """So many points, an even number, joined two by two."""
    left = list(range(size))
    chance.shuffle(left)
    joins = [None] * size
    while left:
        one, other = left.pop(), left.pop()
        joins[one], joins[other] = other, one
    return tuple(joins)


def picked_picture(chance, surface, most):
    """Some picture of the surface, of at most so many strands."""
    many = [0] * (len(surface) // 2)
    for strand in range(chance.randint(0, most)):
        many[chance.randrange(len(many))] += 1
    return tuple(many), picked_joins(chance, 2 * sum(many))


def walked_words(surface, picture):
    """The words of a picture, by the words of point 33."""
    many, joins = picture
    named = [(end, number) for end in surface for number in range(many[LETTERS.index(end.lower())])]
    come_by = set()
    told = []
    while len(come_by) < len(named):
        first = min(set(range(len(named))) - come_by)
        word = ""
        out = first
        while True:
            end, number = named[out]
            word += end
            last = many[LETTERS.index(end.lower())] - 1
            inward = named.index((end.swapcase(), last - number))
            come_by |= {out, inward}
            out = joins[inward]
            if out == first:
                break
        told.append(word)
    return told


def kin(word):
    """The least of all turns of a word and of its back."""
    return min(turned(text, place) for text in (word, swapped(word)) for place in range(len(word)))


class Kinds(unittest.TestCase):
    def test_pictures(self):
        chance = chance_of(33)
        for turn in range(200):
            surface = picked_surface(chance, chance.randint(1, 6))
            self.assertIs(is_picture(surface, picked_picture(chance, surface, 60)), True)

    def test_told_ones(self):
        self.assertIs(is_picture("aA", ((1,), (1, 0))), True)
        self.assertIs(is_picture("aA", ((2,), (2, 3, 0, 1))), True)
        self.assertIs(is_picture("abAB", ((1, 1), (2, 3, 0, 1))), True)
        self.assertIs(is_picture("abAB", ((0, 2), (1, 0, 3, 2))), True)
        self.assertIs(is_picture("abAB", ((2,), (1, 0, 3, 2))), False)
        self.assertIs(is_picture("aA", ((1, 1), (1, 0, 3, 2))), False)
        self.assertIs(is_picture("abAB", ((1, 1, 0), (1, 0, 3, 2))), False)
        self.assertIs(is_picture("abAB", ((), ())), False)

    def test_no_points(self):
        for many in range(1, 7):
            surface = "".join(letter + letter.upper() for letter in LETTERS[:many])
            self.assertIs(is_picture(surface, ((0,) * many, ())), True)
            self.assertIs(is_picture(surface, ((0,) * many, (0,))), False)
            self.assertIs(is_picture(surface, ((0,) * many, (1, 0))), False)
            self.assertIs(is_picture(surface, ((0,) * many, [])), False)
            self.assertIs(is_picture(surface, ((0,) * (many - 1), ())), False)
            self.assertIs(is_picture(surface, ((0,) * (many + 1), ())), False)
            self.assertIs(is_picture(surface, ((False,) * many, ())), False)

    def test_60_and_61(self):
        chance = chance_of(330)
        for surface, many, wanted in (("aA", (60,), True), ("aA", (61,), False), ("aA", (59,), True), ("aA", (62,), False),
                                      ("abAB", (30, 30), True), ("abAB", (30, 31), False), ("abAB", (60, 0), True),
                                      ("abAB", (0, 60), True), ("abAB", (60, 1), False), ("abAB", (1, 60), False),
                                      ("aAbBcCdDeEfF", (10,) * 6, True), ("aAbBcCdDeEfF", (10, 10, 10, 10, 10, 11), False),
                                      ("aAbBcCdDeEfF", (0, 0, 0, 0, 0, 60), True), ("aA", (120,), False), ("aA", (100,), False)):
            self.assertIs(is_picture(surface, (many, picked_joins(chance, 2 * sum(many)))), wanted, many)
        for many in ((10 ** 39,), (-1,), (-60,), (60 + 10 ** 20,)):
            self.assertIs(is_picture("aA", (many, (1, 0))), False)

    def test_below_0(self):
        self.assertIs(is_picture("abAB", ((2, -1), (1, 0))), False)
        self.assertIs(is_picture("abAB", ((-1, 2), (1, 0))), False)
        self.assertIs(is_picture("abAB", ((-1, 1), ())), False)
        self.assertIs(is_picture("abAB", ((61, -1), picked_joins(chance_of(331), 120))), False)
        self.assertIs(is_picture("aA", ((1,), (-1, -2))), False)
        self.assertIs(is_picture("aA", ((1,), (-1, 0))), False)
        self.assertIs(is_picture("aA", ((1,), (1, -2))), False)

    def test_bent_joins(self):
        chance = chance_of(332)
        for turn in range(60):
            surface = picked_surface(chance, chance.randint(1, 6))
            many, joins = picked_picture(chance, surface, 8)
            size = len(joins)
            for place in range(size):
                for part in range(-2, size + 2):
                    wanted = part == joins[place]
                    self.assertIs(is_picture(surface, (many, replaced(joins, place, part))), wanted, (many, joins, place, part))
                for part in [None, "", str(joins[place]), [joins[place]], (joins[place],), {}, 10 ** 39, nested(90)]:
                    self.assertIs(is_picture(surface, (many, replaced(joins, place, part))), False)
                if joins[place] in (0, 1):
                    self.assertIs(is_picture(surface, (many, replaced(joins, place, bool(joins[place])))), False)
                self.assertIs(is_picture(surface, (many, joins[:place] + joins[place + 1:])), False)
                self.assertIs(is_picture(surface, (many, joins[:place] + (place,) + joins[place:])), False)
            self.assertIs(is_picture(surface, (many, joins + (size + 1, size))), False)
            self.assertIs(is_picture(surface, (many, joins + (size,))), False)
            if size:
                self.assertIs(is_picture(surface, (many, tuple(range(size)))), False)
                self.assertIs(is_picture(surface, (many, joins[:-2])), False)

    def test_joins_round_three(self):
        # Each is joined with another one, but not with the one that is joined with it.
        self.assertIs(is_picture("aA", ((2,), (1, 2, 3, 0))), False)
        self.assertIs(is_picture("aA", ((3,), (1, 2, 0, 4, 5, 3))), False)
        self.assertIs(is_picture("aA", ((2,), (1, 0, 1, 0))), False)
        self.assertIs(is_picture("aA", ((2,), (1, 0, 2, 3))), False)

    def test_bent_counts(self):
        chance = chance_of(333)
        for turn in range(60):
            surface = picked_surface(chance, chance.randint(1, 6))
            many, joins = picked_picture(chance, surface, 8)
            for place, count in enumerate(many):
                for part in [count + 1, count - 1, -count - 1, None, str(count), [count], (count,), {}, 10 ** 39]:
                    self.assertIs(is_picture(surface, (replaced(many, place, part), joins)), False)
                if count in (0, 1):
                    self.assertIs(is_picture(surface, (replaced(many, place, bool(count)), joins)), False)
            for part in (list(many), None, 0, sum(many), "", {}, many + (0,), (0,) + many, many[:-1], (many,)):
                self.assertIs(is_picture(surface, (part, joins)), False)

    def test_truths(self):
        self.assertIs(is_picture("aA", ((True,), (1, 0))), False)
        self.assertIs(is_picture("aA", ((1,), (True, False))), False)
        self.assertIs(is_picture("aA", ((1,), (1, False))), False)
        self.assertIs(is_picture("aA", ((1,), (True, 0))), False)

    def test_other_kinds(self):
        for thing in [((1,), [1, 0]), ([1], (1, 0)), [(1,), (1, 0)], ((1,),), ((1,), (1, 0), ()), ((1, 0), (1,)), {}, None, "",
                      (), ((), ()), True, False, 0, {0: (1,), 1: (1, 0)}, ((1,), "10"), ("1", (1, 0)), ((1,), None), (1, (1, 0)),
                      ((1,), {0: 1, 1: 0}), ({0: 1}, (1, 0)), nested(100)] + ODD_THINGS:
            kept = copy.deepcopy(thing)
            self.assertIs(is_picture("aA", thing), False, thing)
            self.assertIs(is_picture("abAB", thing), False, thing)
            self.assertEqual(repr(thing), repr(kept))


class PictureOf(unittest.TestCase):
    def look(self, surface, ways, drawing):
        told = picture_of(surface, ways, drawing)
        self.assertEqual([type(told), len(told)], [tuple, 2])
        self.assertIs(is_picture(surface, told), True)
        many, joins = told
        self.assertEqual(many, tuple(len(order) for order in drawing))
        named = drawn_points(surface, drawing)
        self.assertEqual(len(joins), len(named))
        for number, way in enumerate(ways):
            for place, letter in enumerate(way):
                onward = (place + 1) % len(way)
                start = named.index((letter.swapcase(), (number, place)))
                end = named.index((way[onward], (number, onward)))
                self.assertEqual((joins[start], joins[end]), (end, start), (surface, ways, drawing))
        words = words_of(surface, told)
        self.assertEqual(words, walked_words(surface, told))
        self.assertEqual(sorted(kin(word) for word in words), sorted(kin(way) for way in ways))
        return told

    def test_told_ones(self):
        self.assertEqual(self.look("aA", ("a",), (((0, 0),),)), ((1,), (1, 0)))
        self.assertEqual(self.look("aA", ("a", "A"), (((0, 0), (1, 0)),)), ((2,), (3, 2, 1, 0)))
        self.assertEqual(self.look("abAB", ("a", "b"), (((0, 0),), ((1, 0),))), ((1, 1), (2, 3, 0, 1)))
        self.assertEqual(self.look("abAB", ("ab",), (((0, 0),), ((0, 1),))), ((1, 1), (3, 2, 1, 0)))
        self.assertEqual(self.look("abAB", ("aB",), (((0, 0),), ((0, 1),))), ((1, 1), (1, 0, 3, 2)))
        self.assertEqual(self.look("abAB", ("b",), ((), ((0, 0),))), ((0, 1), (1, 0)))

    def test_all_of_few_strands(self):
        for surface, ways in (("abAB", ("aab", "b")), ("aAbB", ("abAB",)), ("BaAb", ("ab", "BA")), ("cABaCb", ("aab", "c"))):
            for drawing in all_drawings(surface, ways):
                self.look(surface, ways, drawing)

    def test_picked_ones(self):
        chance = chance_of(334)
        for turn in range(150):
            surface, ways = picked_case(chance, 60)
            self.look(surface, ways, picked_drawing(chance, surface, ways))

    def test_of_60_letters(self):
        chance = chance_of(335)
        surface = picked_surface(chance, 3)
        ways = (picked_way(chance, 3, 30), picked_way(chance, 3, 30))
        self.look(surface, ways, picked_drawing(chance, surface, ways))


class WordsOf(unittest.TestCase):
    def look(self, surface, picture):
        told = words_of(surface, picture)
        self.assertIs(type(told), list)
        self.assertEqual(told, walked_words(surface, picture), (surface, picture))
        self.assertEqual(len("".join(told)), sum(picture[0]))
        return told

    def test_told_ones(self):
        self.assertEqual(self.look("aA", ((0,), ())), [])
        self.assertEqual(self.look("abAB", ((0, 0), ())), [])
        self.assertEqual(self.look("aA", ((1,), (1, 0))), ["a"])
        self.assertEqual(self.look("Aa", ((1,), (1, 0))), ["A"])
        self.assertEqual(self.look("aA", ((2,), (3, 2, 1, 0))), ["a", "a"])
        self.assertEqual(self.look("aA", ((2,), (2, 3, 0, 1))), ["aa"])
        self.assertEqual(self.look("aA", ((2,), (1, 0, 3, 2))), ["aA"])
        self.assertEqual(self.look("abAB", ((1, 1), (2, 3, 0, 1))), ["a", "b"])
        self.assertEqual(self.look("abAB", ((1, 1), (3, 2, 1, 0))), ["ab"])
        self.assertEqual(self.look("abAB", ((1, 1), (1, 0, 3, 2))), ["aB"])
        self.assertEqual(self.look("aAbB", ((1, 1), (1, 0, 3, 2))), ["a", "b"])
        self.assertEqual(self.look("bBaA", ((1, 0), (1, 0))), ["a"])

    def test_several_words_from_the_least_points(self):
        # Points: 0, 1, 2 at a; 3 at b; 4, 5, 6 at A (strands 2, 1, 0); 7 at B.
        self.assertEqual(self.look("abAB", ((3, 1), (6, 5, 4, 7, 2, 1, 0, 3))), ["a", "a", "a", "b"])
        self.assertEqual(self.look("abAB", ((3, 1), (6, 4, 5, 7, 1, 2, 0, 3))), ["a", "aa", "b"])
        self.assertEqual(self.look("abAB", ((3, 1), (5, 6, 7, 4, 3, 0, 1, 2))), ["aa", "ab"])
        self.assertEqual(self.look("abAB", ((3, 1), (1, 0, 4, 7, 2, 6, 5, 3))), ["aA", "a", "b"])
        self.assertEqual(self.look("abAB", ((3, 1), (3, 5, 4, 0, 2, 1, 7, 6))), ["aB", "a", "a"])

    def test_all_of_few_points(self):
        chance = chance_of(336)
        for turn in range(400):
            surface = picked_surface(chance, chance.randint(1, 6))
            self.look(surface, picked_picture(chance, surface, 6))

    def test_great_ones(self):
        chance = chance_of(337)
        for turn in range(60):
            surface = picked_surface(chance, chance.randint(1, 6))
            self.look(surface, picked_picture(chance, surface, 60))
        joins = picked_joins(chance, 120)
        self.assertEqual(len("".join(self.look("aA", ((60,), joins)))), 60)

    def test_all_ways_alone(self):
        for letter in LETTERS + BIG:
            surface = "aAbBcCdDeEfF"
            many = tuple(int(small == letter.lower()) for small in LETTERS)
            self.assertEqual(self.look(surface, (many, (1, 0))), [letter.lower()])
            self.assertEqual(self.look(swapped(surface)[::-1], (many, (1, 0))), [letter.upper()])

    def test_told_lists_are_the_askers_own(self):
        picture = ((2,), (3, 2, 1, 0))
        told = words_of("aA", picture)
        told.append("b")
        words_of("aA", picture).clear()
        self.assertEqual(words_of("aA", picture), ["a", "a"])


if __name__ == "__main__":
    unittest.main()
