"""What DOC.md promises over the whole program: points 1, 2, 5 and 6, and that the interface is there."""

import copy
import importlib
import inspect
import itertools
import unittest

from ringwords.caps import capped, carried
from ringwords.counts import avoiding, reduced_count, root_count, round_count, turned_count
from ringwords.crosschecker import lets_crossing
from ringwords.crossing import crossing_paper
from ringwords.cutting import cut, glued
from ringwords.drawings import crossed, crossings, points
from ringwords.errors import NoPaper
from ringwords.holes import handles, holes
from ringwords.judging import judged
from ringwords.letters import back, power, reduced, times
from ringwords.links import links
from ringwords.maps import mapped, plain, then, way_by
from ringwords.nonechecker import lets_none
from ringwords.nothingchecker import lets_nothing
from ringwords.pictures import picture_of, words_of
from ringwords.recurring import recurrence
from ringwords.rings import thick, turns_of
from ringwords.rounds import core, rooted, sums, turns
from ringwords.same import same_paper, standard
from ringwords.samechecker import lets_same
from ringwords.seating import seated
from ringwords.shortening import halves, shortened, shortens
from ringwords.slacks import is_slack, looked
from ringwords.slides import maps_of, slid, told_by
from ringwords.steps import done, walked
from ringwords.steptexts import read_steps, shown_steps
from ringwords.tables import is_table, led, unkept
from ringwords.tight import tight
from ringwords.turning import lets_turning, turning
from tests.helpers import (
    BIG, LETTERS, THIN_RINGS, all_turns, cancelled, chance_of, doable, drawn_crossings, picked_case, picked_drawing,
    picked_same, picked_slides, picked_surface, picked_way, picked_word, swapped, words)

# For each module its names, each with the count of its arguments.
INTERFACE = {
    "letters": "is_letter 1 is_word 2 back 1 is_reduced 1 is_round 1 reduced 1 times 2 power 2",
    "rounds": "core 1 turns 1 least_turn 1 rooted 1 sums 2",
    "rings": "is_rings 1 turns_of 1 thick 1",
    "steps": "is_step 1 done 3 walked 3",
    "shortening": "shortens 1 is_short 2 halves 1 shortened 2",
    "steptexts": "shown_steps 1 read_steps 1",
    "nothingchecker": "lets_nothing 3",
    "nonechecker": "lets_none 4",
    "judging": "judged 2",
    "tables": "is_table 2 led 3 unkept 2 lined 2",
    "seating": "seated 4",
    "turning": "commuting 2 lets_turning 3 turning 2",
    "surfaces": "is_surface 1 is_way 2 are_ways 2",
    "holes": "holes 1 handles 1",
    "balance": "balance 3",
    "drawings": "is_drawing 3 points 3 crossings 3 crossed 5",
    "pictures": "is_picture 2 picture_of 3 words_of 2",
    "links": "links 4",
    "tight": "tight 2",
    "crosschecker": "lets_crossing 3",
    "crossing": "crossing_paper 2",
    "slacks": "is_slack 4 looked 3",
    "maps": "is_map 2 mapped 2 then 2 plain 1 way_by 2",
    "slides": "slid 2 maps_of 2 told_by 2",
    "samechecker": "lets_same 3",
    "same": "same_paper 2 standard 2",
    "cutting": "cut 2 cut_word 2 glued 3",
    "counts": "reduced_count 2 round_count 2 turned_count 2 root_count 2 avoiding 3",
    "recurring": "recurrence 2",
    "caps": "is_caps 2 capped 2 carried 3",
    "desk": "Desk 0",
}


class Interface(unittest.TestCase):
    def test_all_names_are_there(self):
        for module, text in INTERFACE.items():
            parts = text.split(" ")
            for name, count in zip(parts[::2], parts[1::2]):
                told = getattr(importlib.import_module("ringwords." + module), name)
                plain_ones = [part for part in inspect.signature(told).parameters.values() if part.default is part.empty]
                self.assertEqual(len(plain_ones), int(count), (module, name))
        self.assertEqual(len(inspect.signature(importlib.import_module("ringwords.desk").Desk().say).parameters), 1)


class Papers(unittest.TestCase):
    """Point 5, first item."""

    def cases(self, chance, count):
        """Thin rings, those of caps among them, with words that are nothing by them, words that aren't, and others."""
        for turn in range(count):
            rings = chance.choice(THIN_RINGS)
            if turn % 2:
                surface = chance.choice(["abABcdCD", "abcdABCD", "aAbB", "abABcC", "aAbBcC"])
                chosen = sorted(chance.sample(range(len(holes(surface))), 1))
                rings = capped(surface, tuple((hole, chance.choice([1, 7, 10])) for hole in chosen))
            if thick(rings) is None:
                yield rings, self.around(chance, rings)
                yield rings, picked_word(chance, 6, chance.randint(0, 9))

    def around(self, chance, rings):
        """A word made of turns of the rings, each between a word and its back."""
        word = ""
        for part in range(chance.randint(0, 2)):
            front = picked_word(chance, 4, chance.randint(0, 2))
            turn = chance.choice(sorted(all_turns(rings)) or ["bB"])
            word += front + turn + swapped(front)
        return word

    def test_just_one_of_both_papers(self):
        chance = chance_of(5)
        seen = set()
        for rings, word in self.cases(chance, 120):
            told, paper = judged(rings, word)
            seen.add(told)
            if told == "nothing":
                self.assertIs(lets_nothing(rings, word, paper), True)
                self.assertRaises(NoPaper, lets_none, 6, rings, word, ("short", paper))
                self.assertRaises(NoPaper, lets_none, 6, rings, word, ("short", ()))
            else:
                self.assertIs(lets_none(6, rings, word, paper), True)
                self.assertRaises(NoPaper, lets_nothing, rings, word, paper[1])
        self.assertEqual(seen, {"nothing", "none"})

    def test_what_is_made_of_turns_is_nothing(self):
        chance = chance_of(50)
        for turn in range(60):
            rings = chance.choice(THIN_RINGS)
            self.assertEqual(judged(rings, self.around(chance, rings))[0], "nothing")

    def test_shortened_in_whatever_order(self):
        chance = chance_of(51)
        for rings, word in self.cases(chance, 60):
            told = judged(rings, word)[0]
            for again in range(3):
                self.assertEqual(self.shortened_somehow(chance, rings, word) == "", told == "nothing", (rings, word))
            self.assertEqual(shortened(rings, word)[1] == "", told == "nothing")

    def shortened_somehow(self, chance, rings, word):
        """The short word to which steps that shorten lead, picked one by one."""
        while True:
            steps = [("out", place) for place in range(len(word) - 1) if word[place + 1] == word[place].swapcase()]
            for turn in sorted(all_turns(rings)):
                for many in range(len(turn) // 2 + 1, len(turn) + 1):
                    steps += [("ring", place, turn, many) for place in range(len(word)) if word.startswith(turn[:many], place)]
            if not steps:
                return word
            step = chance.choice(steps)
            self.assertIs(shortens(step), True)
            word = done(rings, word, step)

    def test_nothing_by_tables_that_the_rings_fit(self):
        chance = chance_of(52)
        seen = 0
        for rings in (("aaaa",), ("aab",), ("abab", "aa"), ("abAB",), ("aabb",), ("aaa", "bb")):
            found = seated(2, rings, chance.choice(["a", "b", "aB"]), 4)
            if found is None:
                continue
            table = found[0]
            self.assertIs(is_table(2, table), True)
            self.assertIsNone(unkept(rings, table))
            for turn in range(30):
                word = self.stepped(chance, rings, "", 6)
                self.assertEqual([led(table, seat, word) for seat in range(len(table[0]))], list(range(len(table[0]))))
                other = picked_word(chance, 2, 4)
                same = self.stepped(chance, rings, other, 5)
                for seat in range(len(table[0])):
                    self.assertEqual(led(table, seat, same), led(table, seat, other), (rings, other, same))
                seen += 1
        self.assertGreater(seen, 60)

    def stepped(self, chance, rings, word, count):
        """The word behind so many picked steps, whichever can be done."""
        some = sorted(all_turns(rings))
        for number in range(count):
            place = chance.randint(0, len(word))
            steps = [("in", place, chance.choice("abAB"))]
            turn = chance.choice(some)
            for many in range(len(turn) + 1):
                steps += [("ring", at, turn, many) for at in range(len(word) + 1 - many) if word.startswith(turn[:many], at)]
            word = walked(rings, word, (chance.choice(steps),))
        return word

    def test_a_none_paper_of_seats_bars_nothing_papers(self):
        chance = chance_of(53)
        seen = 0
        for rings in (("aaaa",), ("aab",), ("abAB",), ("aaa", "bb")):
            for word in words(2, 2) + words(2, 3):
                found = seated(2, rings, word, 3)
                if found is not None:
                    self.assertIs(lets_none(2, rings, word, ("seats",) + found), True)
                    self.assertNotEqual(self.stepped(chance, rings, word, 6), "")
                    if thick(rings) is None:
                        self.assertEqual(judged(rings, word)[0], "none")
                    seen += 1
        self.assertGreater(seen, 40)


class Turning(unittest.TestCase):
    """Point 5, second item."""

    def test_just_one_of_both(self):
        chance = chance_of(54)
        seen = set()
        for turn in range(200):
            one = picked_word(chance, 3, chance.randint(0, 7))
            other = picked_word(chance, 3, chance.randint(0, 7))
            if turn % 2:
                by = picked_word(chance, 3, 4)
                other = by + one + swapped(by)
            paper = turning(one, other)
            self.assertIs(lets_turning(one, other, paper), True)
            alike = way_by(plain(3), one) == way_by(plain(3), other)
            self.assertEqual(paper[0], "alike" if alike else "unlike")
            if alike:
                self.assertRaises(NoPaper, lets_turning, one, other, ("unlike", way_by(plain(3), one), way_by(plain(3), other)))
            else:
                for by in ("", one, other, paper[1], picked_word(chance, 3, 3)):
                    self.assertRaises(NoPaper, lets_turning, one, other, ("alike", by))
            seen.add(paper[0])
        self.assertEqual(seen, {"alike", "unlike"})

    def test_it_goes_over_by_slides(self):
        chance = chance_of(55)
        for turn in range(60):
            surface = picked_surface(chance, 3)
            over = told_by(surface, picked_slides(chance, surface, 4))[1]
            one, by = picked_word(chance, 3, 5), picked_word(chance, 3, 3)
            other = chance.choice([by + one + swapped(by), picked_word(chance, 3, 5)])
            self.assertEqual(turning(mapped(over, one), mapped(over, other))[0], turning(one, other)[0])


class Crossing(unittest.TestCase):
    """Point 5, third item."""

    def test_each_drawing(self):
        chance = chance_of(56)
        seen = set()
        for turn in range(150):
            surface, ways = picked_case(chance, 12)
            drawing = picked_drawing(chance, surface, ways)
            paper = crossing_paper(surface, ways)
            self.assertIs(lets_crossing(surface, ways, paper), True)
            for i, j in itertools.combinations_with_replacement(range(len(ways)), 2):
                least = len(links(surface, ways, i, j))
                self.assertGreaterEqual(crossed(surface, ways, drawing, i, j), least)
                self.assertEqual(crossed(surface, ways, paper[0], i, j), least)
                self.assertEqual(crossed(surface, ways, tight(surface, ways), i, j), least)
            self.assertEqual(looked(surface, ways, paper[0])[0], "tight")
            told = looked(surface, ways, drawing)
            more = len(crossings(surface, ways, drawing)) > len(paper[1])
            self.assertEqual(told[0], "slack" if more else "tight")
            found = drawn_crossings(surface, ways, drawing)
            slacks = [pair for pair in itertools.permutations(found, 2) if is_slack(surface, ways, drawing, pair)]
            self.assertEqual(slacks != [], more)
            if more:
                self.assertIn(told[1:], slacks)
            seen.add(told[0])
        self.assertEqual(seen, {"slack", "tight"})


class Slides(unittest.TestCase):
    """Point 5, fourth item."""

    def test_told_otherwise(self):
        chance = chance_of(57)
        for turn in range(80):
            many = chance.randint(2, 6)
            surface = picked_surface(chance, many)
            row, over, home = told_by(surface, picked_slides(chance, surface, chance.randint(1, 4)))
            word = picked_word(chance, many, 9)
            self.assertEqual(mapped(home, mapped(over, word)), cancelled(word))
            self.assertEqual(mapped(over, mapped(home, word)), cancelled(word))
            self.assertEqual((handles(row), len(holes(row))), (handles(surface), len(holes(surface))))
            for hole in holes(surface):
                alike = [other for other in holes(row) if turning(mapped(over, hole), other)[0] == "alike"]
                self.assertEqual(len(alike), 1)
            ways = (picked_way(chance, many, 4), picked_way(chance, many, 3))
            there = tuple(way_by(over, way) for way in ways)
            for i, j in ((0, 0), (0, 1), (1, 1)):
                self.assertEqual(len(links(row, there, i, j)), len(links(surface, ways, i, j)))

    def test_words_are_judged_alike_by_caps_that_go_over(self):
        chance = chance_of(58)
        seen = []
        for turn in range(400):
            surface = picked_surface(chance, chance.randint(2, 6))
            hole = chance.randrange(len(holes(surface)))
            caps = ((hole, chance.choice([1, 5, 9])),)
            slides = picked_slides(chance, surface, 2)
            row, over, home = told_by(surface, slides)
            rings, there = capped(surface, caps), capped(row, carried(surface, caps, slides))
            if thick(rings) is None and thick(there) is None:
                front = picked_word(chance, len(surface) // 2, 2)
                for word in (front + rings[0] + swapped(front), front, rings[0][:-1]):
                    told = judged(rings, word)[0]
                    self.assertEqual(judged(there, mapped(over, word))[0], told, (surface, caps, slides, word))
                    seen.append(told)
        self.assertGreater(seen.count("nothing"), 50)
        self.assertGreater(seen.count("none"), 50)

    def test_the_same_just_where_there_are_as_many_holes(self):
        chance = chance_of(59)
        for turn in range(80):
            many = chance.randint(1, 5)
            one, other = picked_surface(chance, many), picked_surface(chance, many)
            paper = same_paper(one, other)
            self.assertIs(lets_same(one, other, paper), True)
            self.assertEqual(paper[0] == "same", len(holes(one)) == len(holes(other)))
            third = picked_same(chance, one, 5)[0]
            self.assertEqual(same_paper(one, third)[0], "same")
            self.assertEqual(len(holes(third)), len(holes(one)))


class Counts(unittest.TestCase):
    """Point 5, last item."""

    def test_those_there_are(self):
        for many, length in ((1, 5), (2, 5), (3, 3), (6, 2)):
            told = [word for word in words(many, length) if reduced(word) == word]
            self.assertEqual(reduced_count(many, length), len(told))
            around = [word for word in told if word[0] != swapped(word[-1])]
            self.assertEqual(round_count(many, length), len(around))
            sets = {min(turns(word)) for word in around}
            self.assertEqual(turned_count(many, length), len(sets))
            self.assertEqual(root_count(many, length), len([word for word in sets if rooted(word)[1] == 1]))
            barred = ["aa", "aba"[:many + 1]]
            left = [word for word in told if not any(part in word for part in barred)]
            self.assertEqual(avoiding(many, barred, length)[length], len(left))

    def test_they_obey_the_recurrence(self):
        for many, barred in ((1, []), (2, ["ab"]), (2, ["aa", "bB", "bab"]), (3, ["abc", "c", "Ab"])):
            told = recurrence(many, barred)
            counts = avoiding(many, barred, 60)
            for n in range(61 - len(told)):
                self.assertEqual(counts[n + len(told)], sum(one * other for one, other in zip(told, counts[n:])))

    def test_short_words_counted(self):
        # A word is short just where it has none of the halves within, and these are not too many here.
        for rings in (("aaaa",), ("abababababababab",)):
            told = avoiding(2, halves(rings), 6)
            for length in range(7):
                short = [word for word in words(2, length) if shortened(rings, word)[1] == word]
                self.assertEqual(told[length], len(short))


class Kept(unittest.TestCase):
    """Point 2: what is handed in stays, and what is told is the asker's own."""

    def test_lists_told_are_new_ones(self):
        surface, ways = "abABcC", ("abC", "cb")
        drawing = tight(surface, ways)
        asked = [
            lambda: turns("abc"), lambda: turns(""), lambda: turns_of(("abAB",)), lambda: halves(("abAB",)), lambda: holes(surface),
            lambda: points(surface, ways, drawing), lambda: crossings(surface, ways, drawing),
            lambda: words_of(surface, picture_of(surface, ways, drawing)), lambda: links(surface, ways, 0, 1),
            lambda: avoiding(2, ["ab"], 4),
        ]
        before = [ask() for ask in asked]
        kept = copy.deepcopy(before)
        for told in before:
            self.assertIs(type(told), list)
            told.reverse()
            told.append("more")
        self.assertEqual([ask() for ask in asked], kept)

    def test_lists_handed_in_stay(self):
        slides = [(0, 1), (0, 1)]
        steps = [("in", 0, "a"), ("out", 0)]
        barred = ["ab", "aab"]
        kept = copy.deepcopy((slides, steps, barred))
        for turn in range(2):
            told_by("abcABC", slides)
            carried("abcABC", ((0, 2),), slides)
            walked((), "", steps)
            shown_steps(steps)
            avoiding(2, barred, 7)
            recurrence(2, barred)
        self.assertEqual((slides, steps, barred), kept)

    def test_answers_hang_on_nothing_asked_before(self):
        chance = chance_of(590)
        asked = []
        for turn in range(30):
            many = chance.randint(2, 5)
            surface = picked_surface(chance, many)
            word, other = picked_word(chance, many, 8), picked_word(chance, many, 5)
            slide = chance.choice(doable(surface))
            asked += [
                (reduced, word), (back, word), (times, word, other), (power, word, -3), (core, word), (sums, many, word),
                (holes, surface), (handles, surface), (slid, surface, slide), (maps_of, surface, slide),
                (told_by, surface, (slide,)), (cut, surface, "a"), (glued, surface, 1, 2), (standard, 4, 3),
                (mapped, maps_of(surface, slide)[0], word), (then, maps_of(surface, slide)[0], maps_of(surface, slide)[1]),
                (thick, (("abAB", "aabb", "abAcBC")[turn % 3],)), (avoiding, 2, ["ab", "BA"], 9), (turned_count, many, 12),
                (carried, surface, ((0, 1),), (slide,)), (read_steps, "in 0 a; out 0"),
            ]
        told = [repr(question[0](*question[1:])) for question in asked]
        order = list(range(len(asked)))
        for turn in range(2):
            chance.shuffle(order)
            for place in order:
                self.assertEqual(repr(asked[place][0](*asked[place][1:])), told[place])

    def test_texts_are_of_the_signs_told(self):
        signs = set(LETTERS + BIG)
        for surface in ("aA", "abAB", "fEdCbAFeDcBa"):
            for word in holes(surface):
                self.assertTrue(set(word) <= signs)


if __name__ == "__main__":
    unittest.main()
