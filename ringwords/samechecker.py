"""Looks at same papers: slides, a turn and names that lead from surface to surface, or numbers of holes."""

from ringwords.errors import NoPaper, NoSlide
from ringwords.holes import holes
from ringwords.letters import number_of
from ringwords.maps import is_map, mapped
from ringwords.slides import slid
from ringwords.whole import is_whole

MOST_SLIDES = 60


def lets_same(one, other, thing):
    """True where the thing is a same paper of both surfaces; else refused with NoPaper."""
    if is_same_paper(one, thing):
        look_at_same(one, other, thing)
    elif is_unlike_paper(thing):
        look_at_unlike(one, other, thing[1], thing[2])
    else:
        raise NoPaper("shape", 0)
    return True


def is_same_paper(one, thing):
    """Whether any plain thing has the shape ("same", slides, place, names), for surfaces like the one."""
    if not isinstance(thing, tuple) or len(thing) != 4 or thing[0] != "same":
        return False
    if not are_slides(thing[1]) or not is_whole(thing[2]) or not 0 <= thing[2] < len(one):
        return False
    return is_names(len(one) // 2, thing[3])


def are_slides(thing):
    """Whether any plain thing is a tuple of slides, not too many."""
    return isinstance(thing, tuple) and len(thing) <= MOST_SLIDES and all([is_slide(part) for part in thing])


def is_slide(thing):
    """Whether any plain thing is a pair of a whole number and a side."""
    if not isinstance(thing, tuple) or len(thing) != 2:
        return False
    return all([is_whole(part) for part in thing]) and thing[1] in (1, -1)


def is_names(many, thing):
    """Whether any plain thing is names for so many letters."""
    if not is_map(many, thing) or not all([len(part) == 1 for part in thing]):
        return False
    return len(set([number_of(part) for part in thing])) == many


def is_unlike_paper(thing):
    """Whether any plain thing has the shape ("unlike", holes, others)."""
    if not isinstance(thing, tuple) or len(thing) != 3 or thing[0] != "unlike":
        return False
    return is_whole(thing[1]) and is_whole(thing[2])


def look_at_same(one, other, paper):
    """Refuses unless the paper's slides, place and names lead from the one row to the other."""
    row = row_behind(one, paper[1])
    begun = row[paper[2]:] + row[:paper[2]]
    if "".join([mapped(paper[3], end) for end in begun]) != other:
        raise NoPaper("row", 0)


def row_behind(surface, slides):
    """The surface to which the slides lead; refused with NoPaper("slide", k)."""
    for k, slide in enumerate(slides):
        # Slid one by one: the maps of a whole row could grow beyond all measure.
        try:
            surface = slid(surface, slide)
        except NoSlide:
            raise NoPaper("slide", k) from None
    return surface


def look_at_unlike(one, other, mine, theirs):
    """Refuses unless both are the surfaces' numbers of holes, and unlike."""
    if mine != len(holes(one)):
        raise NoPaper("holes", 0)
    if theirs != len(holes(other)):
        raise NoPaper("holes", 1)
    if mine == theirs:
        raise NoPaper("holes", 2)
