"""Maps: what the letters become, and words with them."""

from ringwords.letters import SMALL, back, is_reduced, is_word, reduced
from ringwords.turning import least_middle


def is_map(many, thing):
    """Whether any plain thing is a map of so many letters."""
    if not isinstance(thing, tuple) or len(thing) != many:
        return False
    return all([is_word(many, part) and is_reduced(part) for part in thing])


def mapped(change, word):
    """What a word becomes by a map."""
    becomes = {}
    for letter, part in zip(SMALL, change):
        becomes[letter] = part
        becomes[back(letter)] = back(part)
    return reduced("".join([becomes[letter] for letter in word]))


def then(one, other):
    """One map, then another one, as one map."""
    return tuple([mapped(other, part) for part in one])


def plain(many):
    """The map that leaves each of so many letters as it is."""
    return tuple(list(SMALL[:many]))


def way_by(change, way):
    """The word to which a way goes over: the least turn of the middle of what it becomes."""
    return least_middle(mapped(change, way))
