"""Words that commute, words alike up to turning, and papers that show whether they are."""

from ringwords.errors import NoPaper
from ringwords.letters import MOST_MANY, back, is_word, power, reduced, times
from ringwords.rounds import core, least_turn, rooted


def commuting(one, other):
    """A tuple (root, m, n): the words are the root's powers by m and n; None where they don't commute."""
    if times(one, other) != times(other, one):
        return None
    root = root_of(one)
    if root == "":
        root = root_of(other)
    if root == "":
        root = "a"
    return (root, power_in(root, one), power_in(root, other))


def root_of(word):
    """The shortest word of which the word is a power from 1 on; "" where it is nothing."""
    parts = core(word)
    if parts[1] == "":
        return ""
    return parts[0] + rooted(parts[1])[0] + back(parts[0])


def power_in(root, word):
    """The number by which the root's power is the word, which is one."""
    number = len(core(word)[1]) // len(core(root)[1])
    return number if power(root, number) == reduced(word) else -number


def lets_turning(one, other, thing):
    """True where the thing is a turning paper of the words; else refused with NoPaper."""
    if is_alike_paper(thing):
        look_at_alike(one, other, thing[1])
    elif is_unlike_paper(thing):
        look_at_unlike(one, other, thing[1], thing[2])
    else:
        raise NoPaper("shape", 0)
    return True


def is_alike_paper(thing):
    """Whether any plain thing has the shape ("alike", by)."""
    return isinstance(thing, tuple) and len(thing) == 2 and thing[0] == "alike" and is_word(MOST_MANY, thing[1])


def is_unlike_paper(thing):
    """Whether any plain thing has the shape ("unlike", turn, turned)."""
    if not isinstance(thing, tuple) or len(thing) != 3 or thing[0] != "unlike":
        return False
    return is_word(MOST_MANY, thing[1]) and is_word(MOST_MANY, thing[2])


def look_at_alike(one, other, by):
    """Refuses unless the word by turns the one into the other."""
    if reduced(by + one + back(by)) != reduced(other):
        raise NoPaper("by", 0)


def look_at_unlike(one, other, turn, turned):
    """Refuses unless both are the least turns of the middles, and unlike."""
    if turn != least_middle(one):
        raise NoPaper("turn", 0)
    if turned != least_middle(other):
        raise NoPaper("turn", 1)
    if turn == turned:
        raise NoPaper("turn", 2)


def least_middle(word):
    """The least turn of the word's middle."""
    return least_turn(core(word)[1])


def turning(one, other):
    """A turning paper of both words."""
    turn = least_middle(one)
    turned = least_middle(other)
    if turn != turned:
        return ("unlike", turn, turned)
    mine = core(one)
    theirs = core(other)
    # The other's middle is the one's from some place on: the letters ahead of that place turn the one into the other.
    ahead = mine[1][:(mine[1] + mine[1]).find(theirs[1])]
    return ("alike", reduced(theirs[0] + back(ahead) + back(mine[0])))
