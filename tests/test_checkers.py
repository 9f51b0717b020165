import unittest

from ringwords.nonechecker import lets_none
from ringwords.nothingchecker import lets_nothing
from ringwords.tables import lined
from tests.helpers import GENUS_TWO, ODD_THINGS, CheckerTest, nested, swapped

RING = GENUS_TWO[0]
HALF_TURN = ((1, 0),)
WRONG_STEPS = [
    [], [("out", 0)], {}, None, True, False, 0, 1, "", "-", "out 0", (("out", True),), (("out", False),), (["out", 0],),
    (("out",),), (("out", 0, 0),), (("in", 0),), (("in", 0, "ab"),), (("in", True, "a"),), (("ring", 0, "a"),),
    (("ring", 0, "a", True),), (("ring", 0, "a", -1),), (("ring", 0, 0, 0),), ("out", 0), ("out",), (None,), ((),),
    (("out", 0), None), (("out", 0), ["out", 0]), (("out", 0), ("out", -1)), ({},), ([],), ("",), nested(100),
]


class Nothing(CheckerTest):
    def test_let_by(self):
        self.let_by(lets_nothing, (), "", ())
        self.let_by(lets_nothing, GENUS_TWO, "", ())
        self.let_by(lets_nothing, (), "aA", (("out", 0),))
        self.let_by(lets_nothing, (), "abBA", (("out", 1), ("out", 0)))
        self.let_by(lets_nothing, GENUS_TWO, RING, (("ring", 0, RING, 8),))
        self.let_by(lets_nothing, GENUS_TWO, "", (("ring", 0, swapped(RING), 0), ("ring", 0, RING, 8)))
        self.let_by(lets_nothing, GENUS_TWO, "e" + RING + "E", (("ring", 1, RING, 8), ("out", 0)))
        self.let_by(lets_nothing, (), "", (("in", 0, "a"), ("out", 0)))

    def test_thick_rings_too(self):
        self.let_by(lets_nothing, ("abAB",), "abAB", (("ring", 0, "abAB", 4),))
        self.let_by(lets_nothing, ("a", "aa"), "aaa", (("ring", 0, "aa", 2), ("ring", 0, "a", 1)))

    def test_shape(self):
        for thing in WRONG_STEPS + [thing for thing in ODD_THINGS if thing != ()]:
            self.refused("shape", 0, lets_nothing, (), "", thing)
            self.refused("shape", 0, lets_nothing, GENUS_TWO, "aAaA", thing)

    def test_shape_ahead_of_steps_and_end(self):
        self.refused("shape", 0, lets_nothing, (), "a", (("out", 5), ("out", True)))
        self.refused("shape", 0, lets_nothing, (), "a", [("out", 5)])
        self.refused("shape", 0, lets_nothing, (), "aA", [("out", 0)])

    def test_steps_that_can_not_be_done(self):
        self.refused("step", 0, lets_nothing, (), "a", (("out", 0),))
        self.refused("step", 0, lets_nothing, (), "a", (("out", 0), ("out", 0)))
        self.refused("step", 1, lets_nothing, (), "aA", (("out", 0), ("out", 0)))
        self.refused("step", 2, lets_nothing, (), "aAbB", (("out", 0), ("out", 0), ("out", 0)))
        self.refused("step", 0, lets_nothing, (), RING, (("ring", 0, RING, 8),))
        self.refused("step", 0, lets_nothing, GENUS_TWO, "ab", (("ring", 0, "ab", 2),))
        self.refused("step", 0, lets_nothing, GENUS_TWO, "ab", (("ring", 0, "", 0),))
        self.refused("step", 1, lets_nothing, (), "", (("in", 0, "a"), ("in", 3, "a"), ("out", 7)))

    def test_end(self):
        self.refused("end", 0, lets_nothing, (), "a", ())
        self.refused("end", 0, lets_nothing, (), "aA", ())
        self.refused("end", 0, lets_nothing, (), "aAb", (("out", 0),))
        self.refused("end", 0, lets_nothing, GENUS_TWO, "", (("ring", 0, RING, 0),))

    def test_2000_steps_and_2001(self):
        self.let_by(lets_nothing, (), "", (("in", 0, "a"), ("out", 0)) * 1000)
        self.refused("shape", 0, lets_nothing, (), "", (("in", 0, "a"), ("out", 0)) * 1000 + (("in", 0, "a"),))
        self.refused("shape", 0, lets_nothing, (), "aA", (("out", 0),) + (("in", 0, "a"), ("out", 0)) * 1000)
        self.refused("step", 1999, lets_nothing, (), "", ((("in", 0, "a"), ("out", 0)) * 1000)[:1999] + (("out", 9),))

    def test_words_of_2000_letters_on_the_way(self):
        up = (("in", 0, "a"),)
        down = (("out", 0),)
        self.let_by(lets_nothing, (), "aA", up * 999 + (("out", 999),) + tuple(("out", k) for k in range(998, -1, -1)))
        self.let_by(lets_nothing, (), "bB" * 999, up + down * 1000)
        self.refused("step", 1, lets_nothing, (), "bB" * 999, up * 2 + down * 1001)


class None_(CheckerTest):
    def test_short_let_by(self):
        self.let_by(lets_none, 1, (), "a", ("short", ()))
        self.let_by(lets_none, 2, (), "abAB", ("short", ()))
        self.let_by(lets_none, 2, (), "aAb", ("short", (("out", 0),)))
        self.let_by(lets_none, 4, GENUS_TWO, "abAB", ("short", ()))
        self.let_by(lets_none, 4, GENUS_TWO, "abABc", ("short", (("ring", 0, RING, 5),)))
        self.let_by(lets_none, 1, ("aaaa",), "aa", ("short", ()))
        self.let_by(lets_none, 1, ("aaaa",), "aaa", ("short", (("ring", 0, "aaaa", 3),)))
        self.let_by(lets_none, 2, (), "b", ("short", (("in", 0, "a"), ("out", 0)) * 1000))

    def test_seats_let_by(self):
        self.let_by(lets_none, 1, (), "a", ("seats", HALF_TURN, 0))
        self.let_by(lets_none, 1, (), "a", ("seats", HALF_TURN, 1))
        self.let_by(lets_none, 1, ("aa",), "aaa", ("seats", HALF_TURN, 1))
        self.let_by(lets_none, 2, ("aa", "b"), "ab", ("seats", ((1, 0), (0, 1)), 1))
        self.let_by(lets_none, 2, (), "ab", ("seats", ((1, 0, 2), (0, 1, 2)), 0))
        self.let_by(lets_none, 1, (), "a" * 1000, ("seats", lined(1, "a" * 1000), 0))

    def test_seats_of_thick_rings_too(self):
        self.let_by(lets_none, 2, ("abAB",), "a", ("seats", ((1, 0), (0, 1)), 0))
        self.let_by(lets_none, 2, ("abAB", "aa", "aaaa"), "b", ("seats", ((0, 1, 2), (1, 2, 0)), 2))

    def test_shape_of_short(self):
        for thing in WRONG_STEPS:
            self.refused("shape", 0, lets_none, 2, (), "ab", ("short", thing))
            self.refused("shape", 0, lets_none, 2, ("abAB",), "ab", ("short", thing))
        for thing in [("short",), ("short", (), ()), ("short", (), 0), ("Short", ()), ("shorts", ()), ["short", ()],
                      ("", ()), (None, ()), (("short",), ()), {"short": ()}, ((), "short"), "short", ()]:
            self.refused("shape", 0, lets_none, 2, (), "ab", thing)
        self.refused("shape", 0, lets_none, 2, (), "b", ("short", ((("in", 0, "a"), ("out", 0)) * 1001)[:2001]))

    def test_shape_of_seats(self):
        good = ((1, 0), (0, 1))
        for table in [(), ((1, 0),), good + ((0, 1),), [(1, 0), (0, 1)], ([1, 0], (0, 1)), ((1, 0), (0, 1, 2)),
                      ((1, 1), (0, 1)), ((1, 0), (0, 0)), ((True, 0), (0, 1)), ((1, 0), (False, True)), None, 0, "", {},
                      ((), ()), ((1, 2), (0, 1)), ((0, -1), (0, 1)), (tuple(range(1002)),) * 2, nested(90)]:
            self.refused("shape", 0, lets_none, 2, (), "ab", ("seats", table, 0))
        for seat in (-1, 2, 10 ** 39, True, False, None, "0", "", (0,), [0], {}):
            self.refused("shape", 0, lets_none, 2, (), "ab", ("seats", good, seat))
        for thing in [("seats", good), ("seats", good, 0, 0), ("seats", 0, good), ("Seats", good, 0), ["seats", good, 0],
                      ("short", good, 0), ("seats", ()), ("seats", (("out", 0),)), ("seat", good, 0), (0, good, 0)]:
            self.refused("shape", 0, lets_none, 2, (), "ab", thing)

    def test_a_table_of_other_letters(self):
        for many in range(1, 7):
            for rows in range(1, 7):
                paper = ("seats", ((1, 0),) * rows, 0)
                if rows == many:
                    self.let_by(lets_none, many, (), "a", paper)
                else:
                    self.refused("shape", 0, lets_none, many, (), "a", paper)

    def test_any_plain_thing(self):
        for thing in ODD_THINGS + [nested(100)]:
            self.refused("shape", 0, lets_none, 2, (), "ab", thing)
            self.refused("shape", 0, lets_none, 2, ("abAB",), "ab", thing)
            self.refused("shape", 0, lets_none, 2, (), "ab", ("short", thing))
            self.refused("shape", 0, lets_none, 2, (), "ab", (thing, ()))
            self.refused("shape", 0, lets_none, 2, (), "ab", ("seats", thing, 0))
            self.refused("shape", 0, lets_none, 2, (), "ab", (thing, ((1, 0), (0, 1)), 0))
            self.refused("shape", 0, lets_none, 2, (), "ab", thing)

    def test_thick(self):
        for rings in (("abAB",), ("aabbcc",), ("aa", "aaa")):
            self.refused("thick", 0, lets_none, 3, rings, "c", ("short", ()))
            self.refused("thick", 0, lets_none, 3, rings, "c", ("short", (("out", 0),)))
            self.refused("thick", 0, lets_none, 3, rings, "", ("short", ()))
            self.refused("thick", 0, lets_none, 3, rings, "aA", ("short", ()))

    def test_steps_that_can_not_be_done(self):
        self.refused("step", 0, lets_none, 2, (), "a", ("short", (("out", 0),)))
        self.refused("step", 1, lets_none, 2, (), "aAb", ("short", (("out", 0), ("out", 0))))
        self.refused("step", 1, lets_none, 2, (), "aA", ("short", (("out", 0), ("out", 0))))
        self.refused("step", 0, lets_none, 4, GENUS_TWO, "abB", ("short", (("ring", 0, "ab", 2), ("out", 5))))
        self.refused("step", 1, lets_none, 1, (), "a" * 1998, ("short", (("in", 0, "b"),) * 2))

    def test_end(self):
        self.refused("end", 0, lets_none, 1, (), "", ("short", ()))
        self.refused("end", 0, lets_none, 1, (), "aA", ("short", (("out", 0),)))
        self.refused("end", 0, lets_none, 4, GENUS_TWO, RING, ("short", (("ring", 0, RING, 8),)))

    def test_long(self):
        self.refused("long", 0, lets_none, 1, (), "aA", ("short", ()))
        self.refused("long", 0, lets_none, 2, (), "baA", ("short", ()))
        self.refused("long", 0, lets_none, 2, (), "b", ("short", (("in", 0, "a"),)))
        self.refused("long", 0, lets_none, 4, GENUS_TWO, RING, ("short", ()))
        self.refused("long", 0, lets_none, 4, GENUS_TWO, RING[:5], ("short", ()))
        self.refused("long", 0, lets_none, 1, ("aaaa",), "aaa", ("short", ()))

    def test_rings_that_move_a_seat(self):
        self.refused("ring", 0, lets_none, 1, ("a",), "aa", ("seats", HALF_TURN, 0))
        self.refused("ring", 0, lets_none, 1, ("a",), "a", ("seats", HALF_TURN, 0))
        self.refused("ring", 1, lets_none, 1, ("aa", "aaa", "a"), "a", ("seats", HALF_TURN, 0))
        self.refused("ring", 5, lets_none, 1, ("aa",) * 5 + ("a",), "a", ("seats", HALF_TURN, 0))
        self.refused("ring", 0, lets_none, 2, ("a", "bb"), "b", ("seats", ((0, 1, 3, 2), (1, 0, 2, 3)), 0))

    def test_a_seat_that_the_word_keeps(self):
        self.refused("seat", 0, lets_none, 1, (), "", ("seats", HALF_TURN, 0))
        self.refused("seat", 0, lets_none, 1, (), "aA", ("seats", HALF_TURN, 1))
        self.refused("seat", 0, lets_none, 1, ("aa",), "aa", ("seats", HALF_TURN, 1))
        self.refused("seat", 0, lets_none, 2, (), "ab", ("seats", ((1, 0, 2), (0, 1, 2)), 2))
        self.refused("seat", 0, lets_none, 1, (), "a", ("seats", ((0,),), 0))


if __name__ == "__main__":
    unittest.main()
