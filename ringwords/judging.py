"""Whether a word is nothing by thin rings, with a paper that shows it."""

from ringwords.errors import NoThin
from ringwords.rings import thick
from ringwords.shortening import shortened


def judged(rings, word):
    """("nothing", paper) or ("none", paper); of rings that are not thin refused with NoThin."""
    found = thick(rings)
    if found is not None:
        raise NoThin(found[0], found[1], found[2])
    told = shortened(rings, word)
    if told[1] == "":
        return ("nothing", told[0])
    return ("none", ("short", told[0]))
