import unittest

from ringwords.errors import NoText
from ringwords.steptexts import read_steps, shown_steps
from tests.helpers import BIG, LETTERS, chance_of, picked_word

WRITTEN = [
    ((), "-"),
    ((("out", 0),), "out 0"),
    ((("out", 9999),), "out 9999"),
    ((("in", 10, "a"),), "in 10 a"),
    ((("in", 1, "F"),), "in 1 F"),
    ((("ring", 0, "abABcdCD", 5),), "ring 0 abABcdCD 5"),
    ((("ring", 100, "a", 0),), "ring 100 a 0"),
    ((("out", 3), ("in", 0, "b"), ("ring", 2, "aA", 17)), "out 3; in 0 b; ring 2 aA 17"),
    ((("out", 1), ("out", 1)), "out 1; out 1"),
]


class Shown(unittest.TestCase):
    def test_told_ones(self):
        for steps, text in WRITTEN:
            self.assertEqual(shown_steps(steps), text)
            self.assertEqual(shown_steps(list(steps)), text)

    def test_nothing_handed_in_is_changed(self):
        steps = [("out", 3), ("in", 0, "b")]
        shown_steps(steps)
        self.assertEqual(steps, [("out", 3), ("in", 0, "b")])


class Read(unittest.TestCase):
    def refused(self, text, step, word):
        with self.assertRaises(NoText) as caught:
            read_steps(text)
        told = (caught.exception.step, caught.exception.word)
        self.assertEqual(told, (step, word), text)
        self.assertEqual([type(number) for number in told], [int, int])

    def at_each_step(self, part, word):
        """The same wrong step alone, first, in the middle, last."""
        good = "ring 2 ab 1"
        self.refused(part, 0, word)
        self.refused(f"{part}; {good}", 0, word)
        self.refused(f"{good}; {part}; out 1", 1, word)
        self.refused(f"in 0 a; out 0; {good}; {part}", 3, word)
        self.refused(f"{good}; {part}; {part}; oops", 1, word)

    def test_told_ones(self):
        for steps, text in WRITTEN:
            self.assertEqual(read_steps(text), steps)
            self.assertIs(type(read_steps(text)), tuple)

    def test_read_again(self):
        chance = chance_of(16)
        for pick in range(200):
            steps = []
            for number in range(chance.randrange(8)):
                place = chance.choice((0, 1, 9, 10, 99, 100, 999, 1000, 2000, 9999))
                steps.append(chance.choice((
                    ("out", place), ("in", place, chance.choice(LETTERS + BIG)),
                    ("ring", place, picked_word(chance, 6, chance.randrange(1, 130)), chance.choice((0, 7, 120, 9999))))))
            again = read_steps(shown_steps(steps))
            self.assertEqual(again, tuple(steps))
            for step in again:
                self.assertIs(type(step), tuple)
                self.assertIs(type(step[1]), int)
                self.assertIs(type(step[-1]), int if step[0] != "in" else str)

    def test_many_steps(self):
        steps = (("out", 0),) * 2000
        self.assertEqual(read_steps(shown_steps(steps)), steps)
        self.refused(shown_steps(steps) + "; out", 2000, 1)

    def test_first_words(self):
        for word in ("Out", "outs", "ou", "rings", "IN", "a", "0", "--", "-0", "out,", "\tout"):
            for rest in ("", " 0", " 0 a", " 0 a 0", " x y z"):
                self.at_each_step(word + rest, 0)

    def test_words_that_lack(self):
        self.at_each_step("out", 1)
        self.at_each_step("in", 1)
        self.at_each_step("in 0", 2)
        self.at_each_step("ring", 1)
        self.at_each_step("ring 0", 2)
        self.at_each_step("ring 0 ab", 3)

    def test_words_too_many(self):
        self.at_each_step("out 0 0", 2)
        self.at_each_step("out 0 a", 2)
        self.at_each_step("in 0 a 0", 3)
        self.at_each_step("ring 0 ab 1 1", 4)
        self.at_each_step("ring 0 ab 1 out", 4)
        self.at_each_step("out 0 0 0 0", 2)
        self.at_each_step("out 0 -", 2)

    def test_the_first_wrong_word(self):
        self.at_each_step("in x y", 1)
        self.at_each_step("in 0 y z", 2)
        self.at_each_step("ring x y z", 1)
        self.at_each_step("ring 0 y z", 2)
        self.at_each_step("ring 0 ab z", 3)
        self.at_each_step("ring 0 ab z z", 3)
        self.at_each_step("out x 0", 1)
        self.at_each_step("ring x", 1)
        self.at_each_step("in x", 1)

    def test_words_without_signs(self):
        self.refused("", 0, 0)
        self.refused(" ", 0, 0)
        self.refused("  ", 0, 0)
        self.refused(" out 0", 0, 0)
        self.refused("out  0", 0, 1)
        self.refused("out 0 ", 0, 2)
        self.refused("out ", 0, 1)
        self.refused("in 0 ", 0, 2)
        self.refused("in 0  a", 0, 2)
        self.refused("in 0 a ", 0, 3)
        self.refused("ring 0  1", 0, 2)
        self.refused("ring 0 ab ", 0, 3)
        self.refused("ring 0 ab 1 ", 0, 4)
        self.refused("out 0; ", 1, 0)
        self.refused("; out 0", 0, 0)
        self.refused("; ", 0, 0)
        self.refused("out 0; ; out 0", 1, 0)
        self.refused("out 0;  out 0", 1, 0)

    def test_semicolons(self):
        self.refused("out 0;out 0", 0, 1)
        self.refused("out 0;", 0, 1)
        self.refused("out 0 ; out 0", 0, 2)
        self.refused("out 0;; out 0", 0, 1)
        self.refused(";out 0", 0, 0)
        self.refused("out; 0", 0, 1)
        self.refused("in 1; a", 0, 2)

    def test_the_sign_of_none(self):
        self.assertEqual(read_steps("-"), ())
        self.refused("- ", 0, 0)
        self.refused(" -", 0, 0)
        self.refused("-; -", 0, 0)
        self.refused("-; out 0", 0, 0)
        self.refused("out 0; -", 1, 0)
        self.refused("- out 0", 0, 0)
        self.refused("out 0; - 0", 1, 0)
        self.refused("--", 0, 0)

    def test_numbers(self):
        wrong = ["00", "01", "007", "0000", "10000", "99999", "12345", "9" * 5000, "0" * 5000, "-1", "+1", "-0", "1.0",
                 "1_0", "0x1", "1e3", "a", "A", "one", "1a", "a1", "\u0661", "\u00b2", "1\n", ";1", "True"]
        for number in wrong:
            self.at_each_step(f"out {number}", 1)
            self.at_each_step(f"in {number} a", 1)
            self.at_each_step(f"ring {number} a 1", 1)
            self.at_each_step(f"ring 1 a {number}", 3)
        for number in (0, 1, 9, 10, 99, 100, 101, 999, 1000, 9999):
            self.assertEqual(read_steps(f"ring {number} a {number}"), (("ring", number, "a", number),))

    def test_letters_and_turns(self):
        for letter in LETTERS + BIG:
            self.assertEqual(read_steps(f"in 0 {letter}"), (("in", 0, letter),))
            self.assertEqual(read_steps(f"ring 0 {letter} 0"), (("ring", 0, letter, 0),))
        for word in ("g", "Z", "0", "-", "?", "a-", "agb", "\u00e4", "a\n"):
            self.at_each_step(f"in 0 {word}", 2)
            self.at_each_step(f"ring 0 {word} 0", 2)
        self.at_each_step("in 0 ab", 2)
        self.at_each_step("in 0 aA", 2)

    def test_long_texts(self):
        self.refused("x" * 20000, 0, 0)
        self.refused(" " * 20000, 0, 0)
        self.assertEqual(read_steps("ring 0 " + "a" * 19000 + " 0"), (("ring", 0, "a" * 19000, 0),))


if __name__ == "__main__":
    unittest.main()
