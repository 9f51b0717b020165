"""Holes of a surface, as words round them, and its handles."""

from ringwords.letters import back


def holes(surface):
    """The words round the holes, each from its least gap on, in the order of these."""
    told = []
    seen = {}
    for gap in range(len(surface)):
        if gap not in seen:
            told.append(hole_from(surface, gap, seen))
    return told


def hole_from(surface, start, seen):
    """The word round the hole of a gap; its gaps are marked as seen."""
    word = ""
    gap = start
    while gap not in seen:
        seen[gap] = True
        letter = surface[(gap + 1) % len(surface)]
        word = word + letter
        gap = surface.index(back(letter))
    return word


def handles(surface):
    """How many handles the surface has."""
    return (1 + len(surface) // 2 - len(holes(surface))) // 2
