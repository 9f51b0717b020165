"""Shortening words by rings till no step shortens them."""

from ringwords.letters import is_reduced
from ringwords.rings import beginning, turns_of
from ringwords.steps import changed, is_out


def shortens(step):
    """Whether the step leads to a shorter word wherever it can be done."""
    return step[0] == "out" or (step[0] == "ring" and 2 * step[3] > len(step[2]))


def is_short(rings, word):
    """Whether no step that shortens can be done on the word."""
    return is_reduced(word) and not any([half in word for half in halves(rings)])


def halves(rings):
    """Of each turn the least beginning that is more than half of it; rising, each once."""
    return sorted(set([half_of(turn) for turn in turns_of(rings)]))


def half_of(turn):
    """The beginning of as few letters as are more than half of the turn."""
    return turn[:len(turn) // 2 + 1]


def shortened(rings, word):
    """The pair (steps, word): steps that shorten, and the short word to which they lead."""
    known = turns_by_half(rings)
    sizes = sorted(set([len(half) for half in known]))
    # What a step at place turns can be seen by a half that begins this far ahead of it, or by an out.
    reach = max([2] + sizes) - 1
    steps = []
    place = 0
    while place < len(word):
        step = shortening_at(known, sizes, word, place)
        if step is None:
            place += 1
        else:
            steps.append(step)
            word = changed(word, step)
            place = max(0, place - reach)
    return (tuple(steps), word)


def turns_by_half(rings):
    """For each half a turn that begins with it."""
    known = {}
    for turn in turns_of(rings):
        known[half_of(turn)] = turn
    return known


def shortening_at(known, sizes, word, place):
    """A step that shortens the word at this place, or None."""
    if is_out(word, place):
        return ("out", place)
    for size in sizes:
        turn = known.get(word[place:place + size])
        if turn is not None:
            return ("ring", place, turn, len(beginning(turn, word[place:place + len(turn)])))
    return None
