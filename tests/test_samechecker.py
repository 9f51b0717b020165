import itertools
import unittest

from ringwords.holes import holes
from ringwords.samechecker import lets_same
from tests.helpers import (
    BIG, LETTERS, ODD_THINGS, CheckerTest, all_surfaces, chance_of, doable, nested, picked_same,
    picked_slides, picked_surface, renamed, replaced, slid_by_words, turned)

# From the one by two slides, begun at place 3, with a named C, b named A, c named b.
ONE = "abAcBC"
SLIDES = ((0, 1), (3, 1))
NAMES = ("C", "A", "b")
PLACE = 3
ROW = slid_by_words(slid_by_words(ONE, SLIDES[0]), SLIDES[1])
OTHER = renamed(turned(ROW, PLACE), NAMES)
PAPER = ("same", SLIDES, PLACE, NAMES)
IDLE = ((0, 1), (0, -1))


class Same(CheckerTest):
    def test_let_by(self):
        self.let_by(lets_same, ONE, OTHER, PAPER)
        self.let_by(lets_same, "aA", "aA", ("same", (), 0, ("a",)))
        self.let_by(lets_same, "aA", "Aa", ("same", (), 1, ("a",)))
        self.let_by(lets_same, "aA", "Aa", ("same", (), 0, ("A",)))
        self.let_by(lets_same, "aA", "aA", ("same", (), 1, ("A",)))
        self.let_by(lets_same, "abAB", "bABa", ("same", (), 1, ("a", "b")))
        self.let_by(lets_same, "abAB", "baBA", ("same", (), 0, ("b", "a")))
        self.let_by(lets_same, "abAB", "bABa", ("same", ((0, 1),), 0, ("a", "b")))
        self.let_by(lets_same, "aAbB", "abBA", ("same", ((1, 1),), 0, ("a", "b")))

    def test_picked_ones(self):
        chance = chance_of(52)
        for turn in range(150):
            many = chance.randint(1, 6)
            one = picked_surface(chance, many)
            other, paper = picked_same(chance, one, chance.randint(0, 8))
            self.let_by(lets_same, one, other, paper)

    def test_one_and_itself(self):
        chance = chance_of(520)
        for many in range(1, 7):
            surface = picked_surface(chance, many)
            self.let_by(lets_same, surface, surface, ("same", (), 0, tuple(LETTERS[:many])))
            self.refused("row", 0, lets_same, surface, surface, ("same", (), 1, tuple(LETTERS[:many])))

    def test_all_places_and_names_of_two_letters(self):
        names = [tuple(pair) for letters in itertools.permutations("ab") for pair in
                 itertools.product(*[(letter, letter.upper()) for letter in letters])]
        self.assertEqual(len(names), 8)
        for one, other in itertools.product(all_surfaces(2)[::3], all_surfaces(2)):
            for place, named in itertools.product(range(4), names):
                if renamed(turned(one, place), named) == other:
                    self.let_by(lets_same, one, other, ("same", (), place, named))
                else:
                    self.refused("row", 0, lets_same, one, other, ("same", (), place, named))

    def test_shape(self):
        word, slides, place, names = PAPER
        for thing in [
                list(PAPER), PAPER + (0,), PAPER[:3], PAPER[1:], (PAPER,), dict(enumerate(PAPER)), (), ("same",), None, "same",
                ("Same",) + PAPER[1:], ("", slides, place, names), (None, slides, place, names), (0, slides, place, names),
                ("unlike", slides, place, names), ("alike", slides, place, names), (("same",), slides, place, names),
                ("same", place, slides, names), ("same", slides, names, place), nested(100)]:
            self.refused("shape", 0, lets_same, ONE, OTHER, thing)
        for thing in ODD_THINGS:
            self.refused("shape", 0, lets_same, ONE, OTHER, thing)
            for part in range(4):
                if part != 2 or thing not in (0, 1, 2) or isinstance(thing, bool):
                    self.refused("shape", 0, lets_same, ONE, OTHER, replaced(PAPER, part, thing))

    def test_slides_by_kind(self):
        for slides in [
                list(SLIDES), None, "", 0, True, {}, dict(SLIDES), SLIDES[0], (SLIDES,), ((0, 1), [3, 1]), ([0, 1], (3, 1)),
                ((0, 1), (3,)), ((0, 1, 1), (3, 1)), ((0, 1), None), ((0, 1), "31"), ((0, 1), {3: 1}), ((0, 1), ()),
                ((False, 1), (3, 1)), ((0, True), (3, 1)), ((0, 1), (3, True)), ((0, 0), (3, 1)), ((0, 1), (3, 0)),
                ((0, 2), (3, 1)), ((0, 1), (3, 2)), ((0, 1), (3, -2)), ((0, False), (3, 1)), ((0, 1), (3, False)),
                ((0, 1), ("3", 1)), ((0, 1), (3, "1")), ((0, 1), (None, 1)), ((0, 1), (3, None)), ((0, 1), ((3,), 1)),
                ((0, 1), (3, (1,))), ((0, 1), (3, 10 ** 39)), SLIDES + (None,), SLIDES + ((),), nested(90)]:
            self.refused("shape", 0, lets_same, ONE, OTHER, ("same", slides, PLACE, NAMES))

    def test_truths_for_numbers(self):
        self.let_by(lets_same, "abAB", "bABa", ("same", ((0, 1),), 0, ("a", "b")))
        for slides, place in ((((False, 1),), 0), (((0, True),), 0), (((False, True),), 0), (((0, 1),), False)):
            self.refused("shape", 0, lets_same, "abAB", "bABa", ("same", slides, place, ("a", "b")))
        self.let_by(lets_same, "abAB", "bABa", ("same", (), 1, ("a", "b")))
        self.refused("shape", 0, lets_same, "abAB", "bABa", ("same", (), True, ("a", "b")))
        self.let_by(lets_same, "aAbB", "abBA", ("same", ((1, 1),), 0, ("a", "b")))
        self.refused("shape", 0, lets_same, "aAbB", "abBA", ("same", ((True, 1),), 0, ("a", "b")))

    def test_place_by_kind(self):
        for place in [-1, -6, 6, 7, 10 ** 39, -10 ** 39, True, False, None, "3", (3,), [3], {}, ""]:
            self.refused("shape", 0, lets_same, ONE, OTHER, ("same", SLIDES, place, NAMES))
        for place in range(6):
            if place != PLACE:
                self.refused("row", 0, lets_same, ONE, OTHER, ("same", SLIDES, place, NAMES))
        for many in range(1, 7):
            row = "".join(letter + letter.upper() for letter in LETTERS[:many])
            names = tuple(LETTERS[:many])
            self.refused("shape", 0, lets_same, row, row, ("same", (), 2 * many, names))
            self.let_by(lets_same, row, turned(row, 2 * many - 1), ("same", (), 2 * many - 1, names))

    def test_names_by_kind(self):
        for names in [
                list(NAMES), "CAb", ("C", "A"), ("C", "A", "b", "d"), ("C", "A", "d"), ("C", "A", "D"), ("C", "A", "C"),
                ("C", "A", "c"), ("C", "A", "a"), ("C", "A", ""), ("C", "A", "bb"), ("C", "A", "ba"), ("C", "A", "bB"),
                ("CA", "A", "b"), ("", "A", "b"), ("C", "A", None), ("C", "A", 1), ("C", "A", True), ("C", "A", ["b"]),
                ("C", "A", ("b",)), ("C", "A", "g"), ("C", "A", "?"), ("C", "A", " "), ("C", "C", "C"), (), None,
                {"a": "C", "b": "A", "c": "b"}, (NAMES,), ("C", "A", "f"), nested(90)]:
            self.refused("shape", 0, lets_same, ONE, OTHER, ("same", SLIDES, PLACE, names))

    def test_big_names(self):
        chance = chance_of(521)
        for many in range(1, 7):
            one = picked_surface(chance, many)
            names = tuple(chance.sample(BIG[:many], many))
            self.let_by(lets_same, one, renamed(one, names), ("same", (), 0, names))
            self.refused("row", 0, lets_same, one, renamed(one, names),
                         ("same", (), 0, tuple(name.lower() for name in names)))

    def test_other_names(self):
        for names in itertools.permutations(NAMES):
            if names != NAMES:
                self.refused("row", 0, lets_same, ONE, OTHER, ("same", SLIDES, PLACE, names))
        for number, name in enumerate(NAMES):
            names = replaced(NAMES, number, name.swapcase())
            self.refused("row", 0, lets_same, ONE, OTHER, ("same", SLIDES, PLACE, names))

    def test_60_slides_and_61(self):
        self.assertEqual(slid_by_words(slid_by_words("abBA", (0, 1)), (2, -1)), "abBA")
        there_and_back = ((0, 1), (2, -1)) * 30
        self.let_by(lets_same, "abBA", "abBA", ("same", there_and_back, 0, ("a", "b")))
        self.refused("shape", 0, lets_same, "abBA", "bBaA", ("same", there_and_back + ((0, 1),), 0, ("a", "b")))
        self.let_by(lets_same, "abBA", "bBaA", ("same", there_and_back[:59], 0, ("a", "b")))
        self.refused("slide", 59, lets_same, "abBA", "bBaA", ("same", there_and_back[:59] + ((0, 1),), 0, ("a", "b")))

    def test_60_slides_by_which_words_would_grow(self):
        chance = chance_of(522)
        for many in (2, 4, 6):
            one = picked_surface(chance, many)
            other, paper = picked_same(chance, one, 60)
            self.assertEqual(len(paper[1]), 60)
            self.let_by(lets_same, one, other, paper)
        # Each of these leaves the row, and by turns they make words longer and longer.
        slides = ((3, 1), (0, -1)) * 30
        self.assertEqual([slid_by_words("bABa", slide) for slide in slides], ["bABa"] * 60)
        self.let_by(lets_same, "bABa", "bABa", ("same", slides, 0, ("a", "b")))
        self.refused("slide", 59, lets_same, "bABa", "bABa", ("same", slides[:59] + ((4, 1),), 0, ("a", "b")))

    def test_slides_that_can_not_be_done(self):
        chance = chance_of(523)
        for turn in range(100):
            one = picked_surface(chance, chance.randint(2, 6))
            slides = picked_slides(chance, one, 5)
            row = one
            for k in range(6):
                names = tuple(LETTERS[:len(one) // 2])
                wrong = [(-1, 1), (len(one), 1), (len(one), -1), (-len(one), 1), (10 ** 39, 1), (-10 ** 39, -1)]
                wrong += [(place, side) for place in range(len(row)) for side in (1, -1) if (place, side) not in doable(row)]
                bent = tuple(slides[:k]) + (chance.choice(wrong),) + tuple(slides[k:])
                self.refused("slide", k, lets_same, one, one, ("same", bent, 0, names))
                if k < 5:
                    row = slid_by_words(row, slides[k])
        self.refused("slide", 0, lets_same, "aA", "aA", ("same", ((0, 1),), 0, ("a",)))

    def test_other_rows(self):
        chance = chance_of(524)
        for turn in range(80):
            many = chance.randint(2, 6)
            one = picked_surface(chance, many)
            other, paper = picked_same(chance, one, 3)
            bent = picked_surface(chance, many)
            if bent != other:
                self.refused("row", 0, lets_same, one, bent, paper)

    def test_surfaces_of_unlike_holes(self):
        self.refused("row", 0, lets_same, "abAB", "aAbB", ("same", (), 0, ("a", "b")))
        self.refused("row", 0, lets_same, "abAB", "aAbB", ("same", ((0, 1),), 2, ("b", "a")))

    def test_the_first_that_is_due(self):
        self.refused("shape", 0, lets_same, ONE, OTHER, ("same", ((-1, 1),), 9, NAMES))
        self.refused("shape", 0, lets_same, ONE, OTHER, ("same", ((-1, 1), (0, 0)), 0, NAMES))
        self.refused("shape", 0, lets_same, ONE, OTHER, ("same", ((-1, 1),), 0, ("a", "b", "B")))
        self.refused("slide", 0, lets_same, ONE, OTHER, ("same", ((-1, 1), (9, 1)), 0, NAMES))
        self.refused("slide", 1, lets_same, ONE, OTHER, ("same", ((0, 1), (9, 1), (-1, 1)), 1, ("a", "b", "c")))
        self.refused("row", 0, lets_same, ONE, OTHER, ("same", (), 0, ("a", "b", "c")))


class Unlike(CheckerTest):
    def test_let_by(self):
        self.let_by(lets_same, "abAB", "aAbB", ("unlike", 1, 3))
        self.let_by(lets_same, "aAbB", "abAB", ("unlike", 3, 1))
        self.let_by(lets_same, "abcABC", "aAbBcC", ("unlike", 2, 4))

    def test_all_numbers(self):
        chance = chance_of(525)
        unlike = 0
        for turn in range(80):
            many = chance.randint(1, 6)
            one, other = picked_surface(chance, many), picked_surface(chance, many)
            mine, theirs = len(holes(one)), len(holes(other))
            for first, second in itertools.product([-1, 0, 1, 2, 3, 4, 5, 6, 7, 8, 10 ** 39], repeat=2):
                paper = ("unlike", first, second)
                if first != mine:
                    self.refused("holes", 0, lets_same, one, other, paper)
                elif second != theirs:
                    self.refused("holes", 1, lets_same, one, other, paper)
                elif mine == theirs:
                    self.refused("holes", 2, lets_same, one, other, paper)
                else:
                    self.let_by(lets_same, one, other, paper)
                    unlike += 1
        self.assertGreater(unlike, 20)

    def test_exchanged_and_alike(self):
        self.refused("holes", 0, lets_same, "abAB", "aAbB", ("unlike", 3, 1))
        self.refused("holes", 0, lets_same, "abAB", "aAbB", ("unlike", 3, 3))
        self.refused("holes", 1, lets_same, "abAB", "aAbB", ("unlike", 1, 1))
        self.refused("holes", 2, lets_same, "abAB", "baBA", ("unlike", 1, 1))
        self.refused("holes", 2, lets_same, "aA", "aA", ("unlike", 2, 2))

    def test_shape(self):
        for thing in [
                ["unlike", 1, 3], ("unlike", True, 3), ("unlike", 1, True), ("unlike", 1, None), ("unlike", None, 3),
                ("unlike", "1", 3), ("unlike", 1, "3"), ("unlike", 1), ("unlike", 1, 3, 3), ("unlike", (1, 3)), (1, 3),
                ("Unlike", 1, 3), ("same", 1, 3), ("alike", 1, 3), (None, 1, 3), ("unlike", (1,), 3), ("unlike", 1, [3]),
                {"unlike": (1, 3)}, ("unlike",), "unlike", ("unlike", False, 3), ("unlike", 1, {}), (("unlike", 1, 3),)]:
            self.refused("shape", 0, lets_same, "abAB", "aAbB", thing)
        self.refused("shape", 0, lets_same, "aAbB", "abAB", ("unlike", 3, True))


if __name__ == "__main__":
    unittest.main()
