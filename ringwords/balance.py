"""The balance of two words on a surface."""

from ringwords.letters import back
from ringwords.rounds import sums
from ringwords.surfaces import are_met_by_turns, letters_of, round_from


def balance(surface, one, other):
    """What the twined letters of both words come to, added up."""
    letters = letters_of(surface)
    mine = sums(len(letters), one)
    theirs = sums(len(letters), other)
    total = 0
    for x in range(len(letters)):
        for y in range(x + 1, len(letters)):
            total += side_of(surface, letters[x], letters[y]) * (mine[x] * theirs[y] - mine[y] * theirs[x])
    return total


def side_of(surface, x, y):
    """0 of letters that are not twined; else -1 where behind the small x the big y comes first of both y's, or 1."""
    if not are_met_by_turns(places_of(surface, x), places_of(surface, y)):
        return 0
    return -1 if round_from(surface, x, back(y)) < round_from(surface, x, y) else 1


def places_of(surface, letter):
    """The places of a letter's two ends."""
    return (surface.index(letter), surface.index(back(letter)))
