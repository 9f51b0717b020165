import unittest

from ringwords.errors import (
    NoBand, NoPaper, NoRow, NoSlide, NoStep, NoSurface, NoText, NoThin, NoWay, RingError)

FIELDS = [
    (NoStep, ("place",)),
    (NoText, ("step", "word")),
    (NoPaper, ("word", "at")),
    (NoThin, ("turn", "other", "piece")),
    (NoSlide, ("place",)),
    (NoSurface, ("letters", "holes")),
    (NoBand, ("letter",)),
    (NoRow, ("row",)),
    (NoWay, ("name",)),
]


class Blind:
    """Fails when it is looked at or compared."""

    def fail(self, *others):
        raise AssertionError("looked at")

    __eq__ = __hash__ = __repr__ = __str__ = __bool__ = __len__ = __iter__ = __copy__ = __deepcopy__ = fail


class Errors(unittest.TestCase):
    def test_base(self):
        self.assertTrue(issubclass(RingError, ValueError))
        self.assertEqual(str(RingError("some words")), "some words")
        with self.assertRaises(ValueError):
            raise RingError("some words")

    def test_each_stands_under_the_base_alone(self):
        for kind, names in FIELDS:
            self.assertEqual(kind.__mro__[1:], RingError.__mro__)

    def test_each_is_taken_as_itself_and_as_no_other(self):
        for kind, names in FIELDS:
            for taken, other_names in FIELDS:
                error = kind(*names)
                if taken is kind:
                    with self.assertRaises(taken):
                        raise error
                else:
                    self.assertNotIsInstance(error, taken)
            for base in (RingError, ValueError):
                with self.assertRaises(base):
                    raise kind(*names)

    def test_fields_are_the_very_things_in_their_order(self):
        for kind, names in FIELDS:
            things = [Blind() for name in names]
            error = kind(*things)
            for name, thing in zip(names, things):
                self.assertIs(getattr(error, name), thing)

    def test_fields_of_plain_things(self):
        for kind, names in FIELDS:
            for plain in (0, True, None, "", "a", [], [1], {}, {"a": [1]}, (), ([],), 10 ** 39):
                error = kind(*[plain for name in names])
                for name in names:
                    self.assertIs(getattr(error, name), plain)

    def test_fields_are_no_copies(self):
        for kind, names in FIELDS:
            things = [[name] for name in names]
            error = kind(*things)
            for name, thing in zip(names, things):
                thing.append("more")
                self.assertEqual(getattr(error, name), [name, "more"])

    def test_count_of_fields(self):
        for kind, names in FIELDS:
            with self.assertRaises(TypeError):
                kind(*names[1:])
            with self.assertRaises(TypeError):
                kind(*names, "more")

    def test_two_refusals_keep_their_own_fields(self):
        one = NoText(1, 2)
        other = NoText(3, 4)
        self.assertEqual((one.step, one.word, other.step, other.word), (1, 2, 3, 4))


if __name__ == "__main__":
    unittest.main()
