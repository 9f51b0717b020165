import unittest

from ringwords.tables import is_table, led, lined, unkept
from tests.helpers import (
    GENUS_TWO, LETTERS, ODD_THINGS, THIN_RINGS, cancelled, chance_of, nested, picked_round, picked_word, swapped,
    words_up_to)


def picked_row(chance, seats):
    row = list(range(seats))
    chance.shuffle(row)
    return tuple(row)


def picked_table(chance, many, seats):
    return tuple(picked_row(chance, seats) for number in range(many))


def walked_to(table, seat, word):
    """Where a word leads, by the words of point 3."""
    for letter in word:
        row = table[LETTERS.index(letter.lower())]
        seat = row[seat] if letter.islower() else row.index(seat)
    return seat


class Kinds(unittest.TestCase):
    def test_tables(self):
        chance = chance_of(20)
        for many in range(1, 7):
            for seats in (1, 2, 3, 50, 1001):
                table = picked_table(chance, many, seats)
                self.assertIs(is_table(many, table), True)
                for other in range(1, 7):
                    self.assertIs(is_table(other, table), other == many)

    def test_count_of_seats(self):
        for many in (1, 2, 6):
            self.assertIs(is_table(many, (tuple(range(1001)),) * many), True)
            self.assertIs(is_table(many, (tuple(range(1002)),) * many), False)
            self.assertIs(is_table(many, ((),) * many), False)
            self.assertIs(is_table(many, ((0,),) * many), True)
        self.assertIs(is_table(1, ()), False)

    def test_rows_of_unlike_length(self):
        self.assertIs(is_table(2, ((0, 1), (0, 1, 2))), False)
        self.assertIs(is_table(2, ((0, 1, 2), (0, 1))), False)
        self.assertIs(is_table(3, ((0, 1), (1, 0), (0,))), False)
        self.assertIs(is_table(2, ((0,), ())), False)

    def test_seats_that_stand_twice_or_lack(self):
        for row in ((0, 0), (1, 1), (1, 2), (0, 2), (-1, 0), (0, -1), (0, 1, 1), (2, 1, 2), (0, 10 ** 39)):
            self.assertIs(is_table(1, (row,)), False, row)
            good = tuple(range(len(row)))
            self.assertIs(is_table(3, (good, row, good)), False, row)
            self.assertIs(is_table(3, (good, good, row)), False, row)

    def test_truths_and_lists(self):
        for row in ((False,), (0, True), (False, 1), (True, False), (True, 0), [0], [0, 1], {0: 1}, "01", ("0", "1"),
                    (0, None), (0, "1"), ((0,), 1), ([0], 1), ({}, 1), (None,), 0, 1, None, "", {}, True):
            self.assertIs(is_table(1, (row,)), False, row)
            self.assertIs(is_table(1, row), False, row)
            self.assertIs(is_table(2, ((0, 1), row)), False, row)
            self.assertIs(is_table(2, (row, (0, 1))), False, row)
        self.assertIs(is_table(1, [(0, 1)]), False)
        self.assertIs(is_table(2, [(0, 1), (1, 0)]), False)

    def test_other_kinds(self):
        for thing in ODD_THINGS + [nested(100), ((),), (((),),)]:
            for many in (1, 2, 3):
                self.assertIs(is_table(many, thing), False, thing)
        for thing in ODD_THINGS[1:]:
            self.assertIs(is_table(1, ((thing,),)), False, thing)


class Led(unittest.TestCase):
    def test_told_ones(self):
        table = ((1, 2, 0), (0, 2, 1))
        self.assertEqual([led(table, seat, "") for seat in range(3)], [0, 1, 2])
        self.assertEqual([led(table, seat, "a") for seat in range(3)], [1, 2, 0])
        self.assertEqual([led(table, seat, "A") for seat in range(3)], [2, 0, 1])
        self.assertEqual([led(table, seat, "b") for seat in range(3)], [0, 2, 1])
        self.assertEqual([led(table, seat, "ab") for seat in range(3)], [2, 1, 0])
        self.assertEqual([led(table, seat, "ba") for seat in range(3)], [1, 0, 2])

    def test_there_and_back(self):
        chance = chance_of(200)
        for many in range(1, 7):
            for seats in (1, 2, 7, 1001):
                table = picked_table(chance, many, seats)
                word = picked_word(chance, many, 120)
                for seat in {0, seats - 1, chance.randrange(seats)}:
                    there = led(table, seat, word)
                    self.assertEqual(there, walked_to(table, seat, word))
                    self.assertEqual(led(table, there, swapped(word)), seat)
                    self.assertEqual(led(table, seat, word + swapped(word)), seat)


class Unkept(unittest.TestCase):
    def sought(self, rings, table):
        for number, ring in enumerate(rings):
            if any(walked_to(table, seat, ring) != seat for seat in range(len(table[0]))):
                return number
        return None

    def test_told_ones(self):
        turn = ((1, 2, 0),)
        self.assertIsNone(unkept((), turn))
        self.assertIsNone(unkept(("aaa",), turn))
        self.assertIsNone(unkept(("AAA", "aaaaaa"), turn))
        self.assertEqual(unkept(("a",), turn), 0)
        self.assertEqual(unkept(("aa", "aaa"), turn), 0)
        self.assertEqual(unkept(("aaa", "aa", "a"), turn), 1)
        self.assertEqual(unkept(("aaa", "aaa", "aaa", "aaa", "aaa", "A"), turn), 5)
        self.assertIsNone(unkept(("a", "b", "ab"), ((0,), (0,))))

    def test_the_first_or_the_last_seat_alone_is_moved(self):
        self.assertEqual(unkept(("bb", "b"), ((0, 1, 2, 3), (1, 0, 2, 3))), 1)
        self.assertEqual(unkept(("bb", "b"), ((0, 1, 2, 3), (0, 1, 3, 2))), 1)
        self.assertIsNone(unkept(("bb",), ((0, 1, 2, 3), (0, 1, 3, 2))))

    def test_picked_ones(self):
        chance = chance_of(201)
        told = []
        for pick in range(300):
            table = picked_table(chance, 2, chance.choice((1, 2, 3, 4)))
            rings = tuple(picked_round(chance, 2, chance.choice((1, 2, 4, 6, 12))) for number in range(chance.randrange(6)))
            told.append(unkept(rings, table))
            self.assertEqual(told[-1], self.sought(rings, table))
        self.assertTrue({None, 0, 1, 2} <= set(told))

    def test_great_ones(self):
        chance = chance_of(202)
        one, other = picked_row(chance, 1001), picked_row(chance, 1001)
        table = (one, other, other, one)
        self.assertIsNone(unkept(GENUS_TWO, table))
        rings = ("abABcdCD" * 15,) * 5 + ("abABcdC",)
        self.assertEqual(unkept(rings, table), 5)


class Lined(unittest.TestCase):
    def look(self, many, word):
        table = lined(many, word)
        self.assertIs(is_table(many, table), True, word)
        self.assertEqual(len(table[0]), len(word) + 1)
        self.assertNotEqual(walked_to(table, 0, word), 0, word)
        self.assertEqual(led(table, 0, word), walked_to(table, 0, word))

    def test_all_of_few_letters(self):
        for word in words_up_to(2, 6):
            if word and cancelled(word) == word:
                self.look(2, word)
                self.look(3, word)

    def test_one_letter_many_times(self):
        for many in range(1, 7):
            for letter in LETTERS[:many]:
                for length in (1, 2, 3, 200):
                    self.look(many, letter * length)
                    self.look(many, letter.upper() * length)
        self.look(1, "a" * 1000)
        self.look(6, "F" * 1000)

    def test_words_that_come_back_to_a_letter(self):
        for word in ("abA", "abAB", "aba", "abaB", "abABabAB", "aabAAB", "bAbaB"):
            self.look(2, word)

    def test_long_words(self):
        chance = chance_of(203)
        for many in range(2, 7):
            self.look(many, picked_round(chance, many, 200))
            self.look(many, picked_round(chance, many, 1000))

    def test_tables_of_tuples(self):
        table = lined(2, "ab")
        self.assertIs(type(table), tuple)
        self.assertEqual([type(row) for row in table], [tuple, tuple])

    def test_every_ring_set_without_its_words(self):
        self.assertIsNone(unkept((), lined(2, "abAB")))
        for rings in THIN_RINGS:
            for ring in rings:
                self.assertEqual(unkept((ring,), lined(6, ring)), 0)


if __name__ == "__main__":
    unittest.main()
