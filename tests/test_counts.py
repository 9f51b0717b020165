import copy
import itertools
import unittest

from ringwords.counts import avoiding, reduced_count, root_count, round_count, turned_count
from ringwords.recurring import recurrence
from tests.helpers import BIG, LETTERS, cancelled, chance_of, is_root, picked_word, turned, words

# Of so many letters words of up to so many are listed.
LISTED = {1: 12, 2: 6, 3: 4, 4: 3, 5: 3, 6: 3}


def listed_reduced(many, length):
    """All reduced words of this length, letter by letter."""
    told = [""]
    for turn in range(length):
        told = [word + sign for word in told for sign in LETTERS[:many] + BIG[:many] if word[-1:] != sign.swapcase()]
    return told


def listed_round(many, length):
    return [word for word in words(many, length) if cancelled(word + word) == word + word]


def walked_counts(many, length):
    """How many words of this length are reduced and how many round, counted by first and last letter."""
    signs = LETTERS[:many] + BIG[:many]
    ends = {(sign, sign): 1 for sign in signs}
    for turn in range(length - 1):
        longer = dict.fromkeys(itertools.product(signs, repeat=2), 0)
        for (first, last), count in ends.items():
            for sign in signs:
                if sign != last.swapcase():
                    longer[(first, sign)] += count
        ends = longer
    return sum(ends.values()), sum(count for (first, last), count in ends.items() if first != last.swapcase())


def shared(one, other):
    while other:
        one, other = other, one % other
    return one


class Counts(unittest.TestCase):
    def test_length_0(self):
        for many in range(1, 7):
            self.assertEqual(
                (reduced_count(many, 0), round_count(many, 0), turned_count(many, 0), root_count(many, 0)), (1, 1, 1, 0))

    def test_length_1(self):
        for many in range(1, 7):
            for count in (reduced_count, round_count, turned_count, root_count):
                self.assertEqual(count(many, 1), 2 * many)

    def test_told_ones(self):
        self.assertEqual([reduced_count(2, length) for length in range(5)], [1, 4, 12, 36, 108])
        self.assertEqual([round_count(2, length) for length in range(5)], [1, 4, 12, 28, 84])
        self.assertEqual([turned_count(2, length) for length in range(5)], [1, 4, 8, 12, 26])
        self.assertEqual([root_count(2, length) for length in range(5)], [0, 4, 4, 8, 18])

    def test_by_listing(self):
        for many, most in LISTED.items():
            for length in range(most + 1):
                self.assertEqual(reduced_count(many, length), len(listed_reduced(many, length)))
                told = listed_round(many, length)
                self.assertEqual(round_count(many, length), len(told))
                sets = {min([turned(word, place) for place in range(length)], default="") for word in told}
                self.assertEqual(turned_count(many, length), len(sets))
                self.assertEqual(root_count(many, length), len([word for word in sets if is_root(word)]))

    def test_one_letter(self):
        for length in range(1, 61):
            self.assertEqual([reduced_count(1, length), round_count(1, length), turned_count(1, length)], [2, 2, 2])
            self.assertEqual(root_count(1, length), 2 if length == 1 else 0)

    def test_by_first_and_last_letters(self):
        for many in range(1, 7):
            for length in list(range(1, 14)) + [59, 60]:
                told = (reduced_count(many, length), round_count(many, length))
                self.assertEqual(told, walked_counts(many, length), (many, length))

    def test_turns_counted_turn_by_turn(self):
        for many in range(1, 7):
            for length in range(1, 61):
                # A word stays by a turn by so many places just where it repeats what the length and these share.
                stays = [round_count(many, shared(length, place)) for place in range(1, length + 1)]
                self.assertEqual(turned_count(many, length) * length, sum(stays), (many, length))

    def test_roots_make_up_all(self):
        for many in range(1, 7):
            for length in range(1, 61):
                parts = [size for size in range(1, length + 1) if length % size == 0]
                self.assertEqual(sum(size * root_count(many, size) for size in parts), round_count(many, length))
                self.assertEqual(sum(root_count(many, size) for size in parts), turned_count(many, length))

    def test_kinds(self):
        for count in (reduced_count, round_count, turned_count, root_count):
            for many, length in ((1, 0), (2, 7), (6, 60)):
                self.assertIs(type(count(many, length)), int)


def listed_avoiding(many, barred, most):
    """The counts, by listing all words that have none of the barred ones within."""
    told, left = [], [""]
    for length in range(most + 1):
        left = [word for word in left if not any(part in word for part in barred)]
        told.append(len(left))
        left = [word + sign for word in left for sign in LETTERS[:many] + BIG[:many] if word[-1:] != sign.swapcase()]
    return told


def counted_avoiding(many, barred, most):
    """The counts, by the last letters alone, as many as the longest of the barred words has, less one."""
    signs = LETTERS[:many] + BIG[:many]
    reach = max([2] + [len(word) for word in barred]) - 1
    ends = {"": 1}
    told = []
    for length in range(most + 1):
        told.append(sum(ends.values()))
        longer = {}
        for end, count in ends.items():
            for sign in signs:
                text = end + sign
                if end[-1:] != sign.swapcase() and not any(text.endswith(word) for word in barred):
                    longer[text[-reach:]] = longer.get(text[-reach:], 0) + count
        ends = longer
    return told


def picked_barred(chance, many, count, most):
    return [picked_word(chance, many, chance.randint(1, most)) for number in range(count)]


class Avoiding(unittest.TestCase):
    def look(self, many, barred, most, wanted):
        kept = copy.deepcopy(barred)
        told = avoiding(many, barred, most)
        self.assertEqual(barred, kept)
        self.assertIs(type(told), list)
        self.assertEqual({type(count) for count in told}, {int})
        self.assertEqual(told, wanted, (many, barred, most))

    def test_none_avoided(self):
        for many in range(1, 7):
            for most in (0, 1, 2, 60):
                self.look(many, [], most, [reduced_count(many, length) for length in range(most + 1)])

    def test_told_ones(self):
        self.look(1, ["a"], 4, [1, 1, 1, 1, 1])
        self.look(1, ["a", "A"], 4, [1, 0, 0, 0, 0])
        self.look(1, ["aaa"], 5, [1, 2, 2, 1, 1, 1])
        self.look(2, ["a"], 3, [1, 3, 7, 17])
        self.look(2, ["ab"], 3, [1, 4, 11, 30])
        self.look(2, ["a", "b"], 3, [1, 2, 4, 8])
        self.look(2, ["a", "A", "b", "B"], 3, [1, 0, 0, 0])
        self.look(1, ["a"], 0, [1])

    def test_words_that_are_not_reduced(self):
        for barred in (["aA"], ["Aa", "bB"], ["abBA"], ["aAaAaAaA", "aaA"]):
            self.look(2, barred, 30, [reduced_count(2, length) for length in range(31)])
        self.look(2, ["aA", "ab"], 3, [1, 4, 11, 30])

    def test_one_within_another_and_twice(self):
        for barred in (["ab", "aab", "abb", "aabb"], ["aabb", "ab"], ["ab", "ab", "ab"], ["bab", "ab"], ["aba", "ab", "ba"]):
            self.look(2, barred, 7, listed_avoiding(2, barred, 7))
            self.assertEqual(avoiding(2, ["ab", "aab", "aab"], 60), avoiding(2, ["ab"], 60))

    def test_ends_that_begin_others(self):
        for barred in (["aab", "abb", "bba"], ["aaa", "aab", "baa"], ["abab", "baba", "aBab"], ["abcab", "bcabc"],
                       ["aaab", "aac"]):
            self.look(3, barred, 6, listed_avoiding(3, barred, 6))
            self.look(3, barred, 60, counted_avoiding(3, barred, 60))

    def test_by_listing(self):
        chance = chance_of(54)
        for turn in range(120):
            many = chance.randint(1, 3)
            barred = picked_barred(chance, many, chance.randint(0, 8), 4)
            most = chance.randint(0, {1: 10, 2: 7, 3: 5}[many])
            self.look(many, barred, most, listed_avoiding(many, barred, most))

    def test_long_lists_and_60(self):
        chance = chance_of(540)
        for turn in range(4):
            many = chance.randint(2, 6)
            barred = picked_barred(chance, many, 40, 3)
            self.look(many, barred, 60, counted_avoiding(many, barred, 60))

    def test_forty_words_of_eight_letters(self):
        chance = chance_of(541)
        barred = [picked_word(chance, 6, 8) for number in range(39)] + ["abcdefab"]
        told = avoiding(6, barred, 60)
        self.assertEqual(len(told), 61)
        self.assertEqual(told[:8], [reduced_count(6, length) for length in range(8)])
        here = len({word for word in barred if cancelled(word) == word})
        self.assertEqual(told[8], reduced_count(6, 8) - here)
        two = ["abababab", "bababaBB", "aaaaaaab", "baaaaaaa"]
        self.look(2, two, 9, listed_avoiding(2, two, 9))

    def test_the_empty_word(self):
        # It lies within each word, also within itself.
        for barred in ([""], ["", "ab"], ["a", ""]):
            self.look(2, barred, 3, [0, 0, 0, 0])
            told = recurrence(2, barred)
            self.assertTrue(1 <= len(told) <= 100)

    def test_lists_of_one_kind(self):
        barred = ["ab", "aB"]
        first = avoiding(2, barred, 5)
        first.append(0)
        self.assertEqual(avoiding(2, barred, 5), first[:-1])
        barred.append("b")
        self.assertEqual(avoiding(2, barred, 5), listed_avoiding(2, barred, 5))


class Recurring(unittest.TestCase):
    def look(self, many, barred):
        kept = copy.deepcopy(barred)
        told = recurrence(many, barred)
        self.assertEqual(barred, kept)
        self.assertIs(type(told), tuple)
        self.assertTrue(1 <= len(told) <= 100)
        self.assertEqual({type(number) for number in told}, {int})
        counts = counted_avoiding(many, barred, 2 * len(told) + 40)
        for n in range(len(counts) - len(told)):
            self.assertEqual(
                counts[n + len(told)], sum(number * count for number, count in zip(told, counts[n:])), (many, barred, n))

    def test_none_avoided(self):
        for many in (1, 2, 3):
            self.look(many, [])

    def test_no_word_left(self):
        self.look(1, ["a", "A"])
        self.look(2, ["a", "A", "b", "B"])
        self.look(3, ["a", "A", "b", "B", "c", "C"])
        self.look(1, ["aa", "AA"])
        self.look(1, ["aaa", "AAA"])
        self.look(1, ["aaa", "A"])
        self.look(2, ["a", "b", "A", "BBB"])

    def test_edges(self):
        for barred in (["a"], ["aA"], ["aaA", "Bb"], ["ab", "ab"], ["ab", "aab"], ["aba", "ba"], ["a", "b", "A"],
                       ["abA", "bAB", "ABa", "Bab", "aab", "bba"], ["aba", "bab", "BAB", "ABA", "aaa", "bbb"]):
            self.look(2, barred)
            self.look(3, barred)

    def test_all_pairs_of_short_words(self):
        for one, other in itertools.combinations(words(2, 1) + words(2, 2), 2):
            self.look(2, [one, other])

    def test_picked_ones(self):
        chance = chance_of(542)
        for turn in range(150):
            many = chance.randint(1, 3)
            self.look(many, picked_barred(chance, many, chance.randint(0, 6), 3))

    def test_as_many_as_can_be(self):
        chance = chance_of(543)
        for turn in range(10):
            self.look(3, [picked_word(chance, 3, 3) for number in range(6)])

    def test_the_counts_that_are_told_obey_it(self):
        chance = chance_of(544)
        for turn in range(30):
            many = chance.randint(1, 3)
            barred = picked_barred(chance, many, 4, 3)
            told = recurrence(many, barred)
            counts = avoiding(many, barred, 60)
            for n in range(60 - len(told) + 1):
                self.assertEqual(counts[n + len(told)], sum(one * other for one, other in zip(told, counts[n:])))


if __name__ == "__main__":
    unittest.main()
