"""Surfaces that come one to the other by slides, a turn and names; and the standard ones."""

from ringwords.errors import NoSurface
from ringwords.holes import holes
from ringwords.letters import MOST_MANY, SMALL, back
from ringwords.slides import can_slide, moved
from ringwords.surfaces import letters_of


def same_paper(one, other):
    """A same paper of two surfaces of as many letters."""
    mine = len(holes(one))
    theirs = len(holes(other))
    if mine != theirs:
        return ("unlike", mine, theirs)
    found = slid_towards(one, least_reach(other))
    place = place_of(found[0], reaches(other))
    return ("same", found[1], place, names_for(found[0], place, other))


def slid_towards(surface, wanted):
    """The pair (row, slides): a row of these least reaches, and as few slides as lead to one.

    Rows alike up to a turn and names lead to such rows again, so one of them is enough to go on from.
    """
    seen = {least_reach(surface): True}
    rows = [(surface, ())]
    while rows:
        for pair in rows:
            if least_reach(pair[0]) == wanted:
                return pair
        rows = one_slide_on(rows, seen)
    return None


def one_slide_on(rows, seen):
    """The pairs (row, slides) behind one slide more, of reaches not seen yet; these are marked as seen."""
    found = []
    for pair in rows:
        for slide in slides_from(pair[0]):
            row = moved(pair[0], slide)
            reach = least_reach(row)
            if reach not in seen:
                seen[reach] = True
                found.append((row, pair[1] + (slide,)))
    return found


def slides_from(surface):
    """All slides that can be done on a surface."""
    ahead = [(place, -1) for place in range(len(surface))]
    behind = [(place, 1) for place in range(len(surface))]
    return [slide for slide in ahead + behind if can_slide(surface, slide)]


def reaches(surface):
    """For each end how far it is, going round, to its back: what names don't turn."""
    size = len(surface)
    return [(surface.index(back(end)) - place) % size for place, end in enumerate(surface)]


def least_reach(surface):
    """The least turn of the reaches: what neither a turn nor names turn."""
    told = reaches(surface)
    return min([tuple(told[place:] + told[:place]) for place in range(len(told))])


def place_of(surface, wanted):
    """The first place from which on the surface's reaches are the wanted ones."""
    told = reaches(surface)
    return [place for place in range(len(told)) if told[place:] + told[:place] == wanted][0]


def names_for(row, place, other):
    """The names by which the row, begun at the place, is the other one."""
    begun = row[place:] + row[:place]
    return tuple([other[begun.index(letter)] for letter in letters_of(row)])


def standard(letters, count):
    """The standard surface of so many letters and holes; refused with NoSurface where there is none."""
    # As many letters as there are handles, two times.
    paired = 1 + letters - count
    if not 1 <= letters <= MOST_MANY or not 0 <= paired <= letters or paired % 2 == 1:
        raise NoSurface(letters, count)
    row = ""
    for number in range(0, paired, 2):
        row = row + SMALL[number:number + 2] + SMALL[number:number + 2].upper()
    for letter in SMALL[paired:letters]:
        row = row + letter + back(letter)
    return row
