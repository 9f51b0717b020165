import itertools
import unittest

from ringwords.errors import NoSurface
from ringwords.holes import handles, holes
from ringwords.same import same_paper, standard
from ringwords.samechecker import lets_same
from ringwords.slides import told_by
from ringwords.surfaces import is_surface
from tests.helpers import (
    LETTERS, all_surfaces, chance_of, picked_same, picked_surface, renamed, slid_by_words, turned)


def rows_up_to_names(many):
    """All surfaces of so many letters in which these come in order, each small one ahead of its big one."""
    def joined(free):
        if not free:
            return [[]]
        return [[(free[0], other)] + rest for other in free[1:]
                for rest in joined([place for place in free[1:] if place != other])]

    told = []
    for pairs in joined(list(range(2 * many))):
        row = [""] * (2 * many)
        for letter, (one, other) in zip(LETTERS, pairs):
            row[one], row[other] = letter, letter.upper()
        told.append("".join(row))
    return told


class SameTest(unittest.TestCase):
    def look(self, one, other):
        """Looks at the told paper, by the words of point 52 and by the checker; tells its first word."""
        paper = same_paper(one, other)
        self.assertIs(type(paper), tuple)
        mine, theirs = len(holes(one)), len(holes(other))
        if mine != theirs:
            self.assertEqual(paper, ("unlike", mine, theirs))
            self.assertEqual([type(part) for part in paper[1:]], [int, int])
        else:
            self.assertEqual([type(part) for part in paper], [str, tuple, int, tuple])
            self.look_at_same(one, other, paper)
        self.assertIs(lets_same(one, other, paper), True)
        return paper[0]

    def look_at_same(self, one, other, paper):
        word, slides, place, names = paper
        self.assertEqual(word, "same")
        self.assertLessEqual(len(slides), 60)
        row = one
        for slide in slides:
            self.assertNotEqual(row[(slide[0] + slide[1]) % len(row)], row[slide[0]].swapcase())
            row = slid_by_words(row, slide)
        self.assertEqual(renamed(turned(row, place), names), other, (one, other, paper))


class Papers(SameTest):
    def test_told_ones(self):
        self.assertEqual(same_paper("abAB", "aAbB"), ("unlike", 1, 3))
        self.assertEqual(same_paper("aAbB", "abAB"), ("unlike", 3, 1))
        self.assertEqual(self.look("aA", "Aa"), "same")
        self.assertEqual(self.look("aAbB", "abBA"), "same")
        self.assertEqual(self.look("abAB", "BAba"), "same")

    def test_all_of_one_and_two_letters(self):
        for many in (1, 2):
            for one, other in itertools.product(all_surfaces(many), repeat=2):
                self.look(one, other)

    def test_all_of_three_letters_up_to_names(self):
        told = rows_up_to_names(3)
        self.assertEqual(len(told), 15)
        for one, other in itertools.product(told, repeat=2):
            self.look(one, other)

    def test_all_of_four_letters_up_to_names_with_some(self):
        told = rows_up_to_names(4)
        self.assertEqual(len(told), 105)
        for one in told:
            for other in told[::9]:
                self.look(one, other)

    def test_all_of_five_letters_up_to_names_with_one(self):
        told = rows_up_to_names(5)
        self.assertEqual(len(told), 945)
        chance = chance_of(52)
        for one in told[::7]:
            self.look(one, chance.choice(told))
            self.look(standard(5, len(holes(one))), one)

    def test_one_and_itself(self):
        chance = chance_of(520)
        for turn in range(40):
            surface = picked_surface(chance, chance.randint(1, 5))
            self.assertEqual(self.look(surface, surface), "same")

    def test_the_same_by_slides_a_turn_and_names(self):
        chance = chance_of(521)
        for turn in range(120):
            one = picked_surface(chance, chance.randint(1, 5))
            other, paper = picked_same(chance, one, chance.choice([0, 1, 2, 5, 60]))
            self.assertIs(lets_same(one, other, paper), True)
            self.assertEqual(self.look(one, other), "same")
            self.assertEqual(self.look(other, one), "same")

    def test_drawn_ones(self):
        chance = chance_of(522)
        seen = set()
        for turn in range(200):
            many = chance.randint(1, 5)
            seen.add((many, self.look(picked_surface(chance, many), picked_surface(chance, many))))
        wanted = set(itertools.product(range(2, 6), ("same", "unlike"))) | {(1, "same")}
        self.assertEqual(seen, wanted)

    def test_its_slides_may_be_handed_in_again(self):
        chance = chance_of(523)
        for turn in range(60):
            one = picked_surface(chance, chance.randint(2, 5))
            other = picked_same(chance, one, 9)[0]
            word, slides, place, names = same_paper(one, other)
            row = told_by(one, slides)[0]
            self.assertEqual(renamed(turned(row, place), names), other)

    def test_each_comes_to_the_standard_one(self):
        chance = chance_of(524)
        for turn in range(80):
            many = chance.randint(1, 5)
            surface = picked_surface(chance, many)
            self.assertEqual(self.look(surface, standard(many, len(holes(surface)))), "same")


class Standard(unittest.TestCase):
    def test_told_ones(self):
        self.assertEqual(standard(1, 2), "aA")
        self.assertEqual(standard(2, 1), "abAB")
        self.assertEqual(standard(2, 3), "aAbB")
        self.assertEqual(standard(3, 2), "abABcC")
        self.assertEqual(standard(3, 4), "aAbBcC")
        self.assertEqual(standard(4, 1), "abABcdCD")
        self.assertEqual(standard(4, 3), "abABcCdD")
        self.assertEqual(standard(4, 5), "aAbBcCdD")
        self.assertEqual(standard(5, 2), "abABcdCDeE")
        self.assertEqual(standard(5, 4), "abABcCdDeE")
        self.assertEqual(standard(6, 1), "abABcdCDefEF")
        self.assertEqual(standard(6, 3), "abABcdCDeEfF")
        self.assertEqual(standard(6, 5), "abABcCdDeEfF")
        self.assertEqual(standard(6, 7), "aAbBcCdDeEfF")

    def test_all_numbers(self):
        seen = 0
        for letters in range(1, 7):
            for count in list(range(-9, 12)) + [10 ** 39, -10 ** 39, 10 ** 39 + 1]:
                fits = 1 <= count <= letters + 1 and (letters + 1 - count) % 2 == 0
                if fits:
                    row = standard(letters, count)
                    self.assertIs(is_surface(row), True)
                    self.assertEqual((len(row), len(holes(row))), (2 * letters, count))
                    self.assertEqual(handles(row), (letters + 1 - count) // 2)
                    pairs = [LETTERS[place:place + 2] for place in range(0, 2 * handles(row), 2)]
                    rest = LETTERS[2 * handles(row):letters]
                    self.assertEqual(row, "".join(part + part.upper() for part in pairs + list(rest)))
                    seen += 1
                else:
                    with self.assertRaises(NoSurface) as caught:
                        standard(letters, count)
                    self.assertEqual((caught.exception.letters, caught.exception.holes), (letters, count))
        self.assertEqual(seen, 1 + 2 + 2 + 3 + 3 + 4)

    def test_there_are_no_other_numbers(self):
        for many in (1, 2, 3, 4):
            told = {len(holes(surface)) for surface in rows_up_to_names(many)}
            for count in range(-1, 8):
                if count in told:
                    self.assertEqual(len(holes(standard(many, count))), count)
                else:
                    self.assertRaises(NoSurface, standard, many, count)


if __name__ == "__main__":
    unittest.main()
