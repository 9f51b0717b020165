"""Whole numbers, told from truths."""


def is_whole(thing):
    """Python counts a truth as a number; here it is none."""
    return isinstance(thing, int) and not isinstance(thing, bool)
