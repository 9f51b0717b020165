import unittest

from ringwords.errors import NoStep
from ringwords.steps import done, is_step, walked
from tests.helpers import (
    BIG, GENUS_TWO, LETTERS, ODD_THINGS, THIN_RINGS, all_turns, cancelled, chance_of, nested, picked_word, swapped)

RING = GENUS_TWO[0]


def all_done(rings, word):
    """Where each step that could be done leads, by the words of point 14; turns and places small."""
    told = {}
    for place in range(len(word) + 3):
        if word[place + 1:place + 2] == word[place:place + 1].swapcase() != "":
            told["out", place] = word[:place] + word[place + 2:]
        for letter in "abAF":
            if place <= len(word):
                told["in", place, letter] = word[:place] + letter + letter.swapcase() + word[place:]
        for turn in all_turns(rings):
            for many in range(len(turn) + 1):
                if place + many <= len(word) and word[place:].startswith(turn[:many]):
                    told["ring", place, turn, many] = word[:place] + swapped(turn[many:]) + word[place + many:]
    return told


def tried(rings, word):
    """Steps of all sorts, those that can be done and many that can't."""
    steps = []
    more = {"ab", "aab", "", "abc", "Ab", "a"}
    for place in range(len(word) + 3):
        steps.append(("out", place))
        steps.extend(("in", place, letter) for letter in "abAF")
        for turn in all_turns(rings) | more:
            steps.extend(("ring", place, turn, many) for many in range(len(turn) + 3))
    return steps


class StepTest(unittest.TestCase):
    def refuses(self, number, rings, word, steps):
        with self.assertRaises(NoStep) as caught:
            walked(rings, word, steps)
        self.assertEqual(caught.exception.place, number)
        self.assertIs(type(caught.exception.place), int)

    def undone(self, rings, word, step):
        with self.assertRaises(NoStep) as caught:
            done(rings, word, step)
        self.assertEqual(caught.exception.place, 0)
        self.refuses(0, rings, word, (step,))

    def leads(self, rings, word, step, to):
        self.assertEqual(done(rings, word, step), to)
        self.assertEqual(walked(rings, word, [step]), to)


class Kinds(unittest.TestCase):
    def test_steps(self):
        for number in (0, 1, 199, 2000, 9999, 10 ** 39):
            self.assertIs(is_step(("out", number)), True)
            self.assertIs(is_step(("in", number, "a")), True)
            self.assertIs(is_step(("ring", number, "ab", 0)), True)
            self.assertIs(is_step(("ring", 0, "ab", number)), True)
        for letter in LETTERS + BIG:
            self.assertIs(is_step(("in", 0, letter)), True)
        for turn in ("", "a", "aA", "abcdefABCDEF", "a" * 2000):
            self.assertIs(is_step(("ring", 0, turn, 0)), True)

    def test_shapes_that_are_no_steps(self):
        for thing in [(), ("out",), ("in",), ("ring",), ("in", 0), ("ring", 0), ("ring", 0, "a"), ("out", 0, "a"),
                      ("out", 0, 0), ("in", 0, "a", 0), ("ring", 0, "a", 0, 0), ("out", 0, "a", 0), ("ring", 0, "a", 0, "a"),
                      ("in", 0, "ab"), ("in", 0, ""), ("in", 0, "g"), ("in", "a", 0), ("ring", 0, 0, "a"),
                      ("ring", 0, "ag", 0), ("ring", 0, "a b", 0), ("ring", "a", 0, 0), ("Out", 0), ("OUT", 0), ("", 0),
                      ("round", 0), ("in ", 0, "a"), (0, "out"), ("out", -1), ("in", -1, "a"), ("ring", -1, "a", 0),
                      ("ring", 0, "a", -1), ("ring", 0), ("in", 0, "a", "a"), ("out",) * 2, ("in", 0, ("a",)),
                      ("ring", 0, ("a", "b"), 1), ("ring", 0, ["a"], 1), ("ring", 0, None, 0)]:
            self.assertIs(is_step(thing), False, thing)

    def test_truths_are_no_numbers(self):
        for truth in (True, False):
            for thing in (("out", truth), ("in", truth, "a"), ("ring", truth, "a", 0), ("ring", 0, "a", truth)):
                self.assertIs(is_step(thing), False, thing)

    def test_a_list_is_no_tuple(self):
        for thing in (["out", 0], ["in", 0, "a"], ["ring", 0, "a", 0], "out", {"out": 0}):
            self.assertIs(is_step(thing), False, thing)

    def test_other_kinds(self):
        for thing in ODD_THINGS + [nested(100)]:
            self.assertIs(is_step(thing), False, thing)
            self.assertIs(is_step((thing, 0)), False, thing)
            self.assertIs(is_step((thing, 0, "a")), False, thing)
            self.assertIs(is_step((thing, 0, "a", 0)), False, thing)
            self.assertIs(is_step(("in", 0, thing)), False, thing)
            if not (isinstance(thing, int) and not isinstance(thing, bool) and thing >= 0):
                self.assertIs(is_step(("out", thing)), False, thing)
                self.assertIs(is_step(("in", thing, "a")), False, thing)
                self.assertIs(is_step(("ring", thing, "a", 0)), False, thing)
                self.assertIs(is_step(("ring", 0, "a", thing)), False, thing)
            self.assertIs(is_step(("ring", 0, thing, 0)), False, thing)


class Out(StepTest):
    def test_first_last_and_beyond(self):
        self.leads((), "aAb", ("out", 0), "b")
        self.leads((), "Aab", ("out", 0), "b")
        self.leads((), "baA", ("out", 1), "b")
        self.leads((), "fF", ("out", 0), "")
        self.undone((), "baA", ("out", 0))
        self.undone((), "baA", ("out", 2))
        self.undone((), "baA", ("out", 3))
        self.undone((), "", ("out", 0))
        self.undone((), "a", ("out", 0))
        self.undone((), "aa", ("out", 0))
        self.undone((), "ab", ("out", 0))
        self.undone((), "aBb", ("out", 10 ** 39))

    def test_the_last_letter_has_none_behind_it(self):
        self.undone((), "abA", ("out", 2))
        self.undone((), "Aba", ("out", 2))


class In(StepTest):
    def test_first_last_and_beyond(self):
        self.leads((), "bc", ("in", 0, "a"), "aAbc")
        self.leads((), "bc", ("in", 1, "A"), "bAac")
        self.leads((), "bc", ("in", 2, "f"), "bcfF")
        self.leads((), "", ("in", 0, "a"), "aA")
        self.undone((), "bc", ("in", 3, "a"))
        self.undone((), "", ("in", 1, "a"))
        self.undone((), "", ("in", 10 ** 39, "a"))

    def test_any_letter_whatever_the_rings(self):
        for letter in LETTERS + BIG:
            self.leads(("a",), "a", ("in", 1, letter), "a" + letter + letter.swapcase())


class Ring(StepTest):
    def test_first_last_and_beyond(self):
        word = "eabAe"
        self.leads(GENUS_TWO, word, ("ring", 1, RING, 3), "e" + swapped("BcdCD") + "e")
        self.leads(GENUS_TWO, "abAe", ("ring", 0, RING, 3), swapped("BcdCD") + "e")
        self.leads(GENUS_TWO, "eabA", ("ring", 1, RING, 3), "e" + swapped("BcdCD"))
        self.undone(GENUS_TWO, "eab", ("ring", 1, RING, 3))
        self.undone(GENUS_TWO, word, ("ring", 0, RING, 3))
        self.undone(GENUS_TWO, word, ("ring", 2, RING, 3))

    def test_none_of_the_letters(self):
        for place in range(4):
            word = "eee"
            self.leads(GENUS_TWO, word, ("ring", place, RING, 0), word[:place] + swapped(RING) + word[place:])
        self.undone(GENUS_TWO, "eee", ("ring", 4, RING, 0))
        self.leads(GENUS_TWO, "", ("ring", 0, RING, 0), swapped(RING))
        self.undone(GENUS_TWO, "", ("ring", 1, RING, 0))

    def test_all_of_the_letters_and_one_more(self):
        self.leads(GENUS_TWO, "e" + RING + "f", ("ring", 1, RING, 8), "ef")
        self.leads(GENUS_TWO, RING, ("ring", 0, RING, 8), "")
        self.leads(GENUS_TWO, RING, ("ring", 0, RING, 7), "dD")
        self.undone(GENUS_TWO, RING + RING, ("ring", 0, RING, 9))
        self.undone(GENUS_TWO, RING + RING, ("ring", 0, RING, 10 ** 39))
        self.leads(("a",), "a", ("ring", 0, "a", 1), "")
        self.leads(("a",), "b", ("ring", 0, "a", 0), "Ab")
        self.undone(("a",), "aa", ("ring", 0, "a", 2))

    def test_a_place_that_is_beyond(self):
        self.undone(GENUS_TWO, RING, ("ring", 10 ** 39, RING, 0))
        self.undone(GENUS_TWO, RING, ("ring", 8, RING, 1))

    def test_a_turn_that_is_none_of_the_rings(self):
        for turn in ("", "a", "ab", "abABcdC", "abABcdCDa", "abABdcDC", RING * 2, "ABabcdCD"):
            self.undone(GENUS_TWO, turn, ("ring", 0, turn, len(turn)))
            self.undone(GENUS_TWO, turn, ("ring", 0, turn, 0))
            self.undone((), turn, ("ring", 0, turn, 0))

    def test_all_turns_of_all_rings_and_of_their_backs(self):
        for rings in THIN_RINGS + [("ab", "c"), ("abAB", "ddd", "aab", "e", "f", "ff")]:
            for turn in all_turns(rings):
                for many in range(len(turn) + 1):
                    self.assertEqual(done(rings, "f" + turn, ("ring", 1, turn, many)), "f" + swapped(turn[many:]) + turn[many:])


class Bound(StepTest):
    def test_in(self):
        self.leads((), "a" * 1998, ("in", 5, "b"), "aaaaabB" + "a" * 1993)
        self.undone((), "a" * 1999, ("in", 5, "b"))
        self.undone((), "a" * 2000, ("in", 5, "b"))

    def test_ring(self):
        self.leads(GENUS_TWO, "e" * 1992, ("ring", 0, RING, 0), swapped(RING) + "e" * 1992)
        self.undone(GENUS_TWO, "e" * 1993, ("ring", 0, RING, 0))
        self.leads(GENUS_TWO, "ab" + "e" * 1994, ("ring", 0, RING, 2), swapped(RING[2:]) + "e" * 1994)
        self.leads(GENUS_TWO, "abAB" + "e" * 1996, ("ring", 0, RING, 4), swapped(RING[4:]) + "e" * 1996)
        self.undone(GENUS_TWO, "abA" + "e" * 1996, ("ring", 0, RING, 3))
        self.leads(("abc",), "e" * 1997, ("ring", 1997, "abc", 0), "e" * 1997 + "CBA")
        self.undone(("abc",), "e" * 1998, ("ring", 1998, "abc", 0))

    def test_out_of_2000(self):
        self.leads((), "aA" + "b" * 1998, ("out", 0), "b" * 1998)
        self.leads((), "b" * 1998 + "aA", ("out", 1998), "b" * 1998)

    def test_on_the_way(self):
        self.assertEqual(walked((), "a" * 1998, (("in", 0, "b"), ("out", 0), ("in", 0, "c"))), "cC" + "a" * 1998)
        self.refuses(1, (), "a" * 1998, (("in", 0, "b"), ("in", 0, "b"), ("out", 0), ("out", 0)))


class All(StepTest):
    def test_all_steps_on_some_words(self):
        chance = chance_of(14)
        for rings in ((), ("a",), ("ab",), ("aab", "bbb"), ("abAB",), GENUS_TWO):
            turns = sorted(all_turns(rings)) or ["ab"]
            for word in ("", "a", "aA", picked_word(chance, 2, 5), chance.choice(turns)[:6] + "Bb", chance.choice(turns)):
                told = all_done(rings, word)
                for step in tried(rings, word):
                    if step in told:
                        self.leads(rings, word, step, told[step])
                    else:
                        self.undone(rings, word, step)


class Rows(StepTest):
    STEPS = (("in", 0, "b"), ("ring", 2, "abc", 1), ("out", 1), ("out", 0))

    def test_walked(self):
        # a, bBa, bBCB (abc: a is CB), then no letter with its back but the first two.
        self.assertEqual(walked(("abc",), "a", self.STEPS[:1]), "bBa")
        self.assertEqual(walked(("abc",), "a", self.STEPS[:2]), "bBCB")
        self.assertEqual(walked(("abc",), "a", self.STEPS[:2] + (("out", 0),)), "CB")

    def test_no_steps(self):
        for word in ("", "a", "aA", "a" * 2000):
            self.assertEqual(walked((), word, ()), word)
            self.assertEqual(walked(GENUS_TWO, word, []), word)

    def test_tuple_and_list(self):
        for kind in (tuple, list):
            self.assertEqual(walked((), "bB", kind([("in", 2, "a"), ("out", 0), ("out", 0)])), "")

    def test_which_step_can_not_be_done(self):
        for kind in (tuple, list):
            self.refuses(0, (), "a", kind([("out", 0), ("in", 0, "a"), ("out", 0)]))
            self.refuses(1, (), "a", kind([("in", 0, "b"), ("out", 1), ("out", 0)]))
            self.refuses(2, ("abc",), "a", kind(self.STEPS))
            self.refuses(2, (), "a", kind([("in", 0, "b"), ("out", 0), ("out", 0)]))
            self.refuses(0, (), "a", kind([("out", 5), ("out", 6)]))

    def test_what_is_no_step_can_not_be_done(self):
        for thing in [("out", True), ["out", 0], ("out",), None, "out"]:
            self.refuses(1, (), "aAbB", [("out", 0), thing, ("out", 0)])

    def test_many_steps(self):
        steps = [("in", 0, "a"), ("out", 0)] * 1000
        self.assertEqual(walked((), "b", steps), "b")
        self.refuses(1999, (), "b", steps[:1999] + [("out", 5)])
        self.refuses(1000, (), "", [("in", 0, "a")] * 1001)
        self.assertEqual(len(walked((), "", [("in", 0, "a")] * 1000)), 2000)

    def test_nothing_handed_in_is_changed(self):
        steps = [("in", 0, "b"), ("out", 0)]
        walked((), "a", steps)
        self.assertEqual(steps, [("in", 0, "b"), ("out", 0)])
        self.refuses(2, (), "a", steps + [("out", 0)])
        self.assertEqual(steps, [("in", 0, "b"), ("out", 0)])

    def test_steps_of_no_rings_keep_what_a_word_is_reduced_to(self):
        chance = chance_of(140)
        word = picked_word(chance, 3, 20)
        first = word
        for number in range(200):
            told = [step for step in all_done((), word) if step[0] == "out" or len(word) < 30]
            word = done((), word, chance.choice(sorted(told) or [("in", 0, "a")]))
            self.assertEqual(cancelled(word), cancelled(first))


if __name__ == "__main__":
    unittest.main()
