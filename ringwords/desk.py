"""A desk: it keeps a surface, ways by names and caps, and answers rows."""

from ringwords.caps import MOST_CAPS, MOST_TIMES, capped, carried_by
from ringwords.deskrows import names_asked, read_word, row_words
from ringwords.errors import NoPaper, NoRow, NoSlide, NoWay
from ringwords.holes import handles, holes
from ringwords.judging import judged
from ringwords.letters import is_word
from ringwords.links import links
from ringwords.maps import way_by
from ringwords.nothingchecker import lets_nothing
from ringwords.same import same_paper
from ringwords.slides import maps_of, slid
from ringwords.steptexts import read_steps, shown_steps
from ringwords.surfaces import MOST_ENDS, MOST_WAY_LETTERS, is_way
from ringwords.turning import least_middle


class Desk:
    """Keeps a surface, the words of ways by their names, caps, and the slides that stand."""

    def __init__(self):
        self.surface = None
        self.words = {}
        self.caps = ()
        # Of each slide that stands the row ahead of it and the map of words home, the last one last.
        self.slides = []

    def say(self, row):
        """The answer to a row, a text; refused with NoRow, NoWay, NoSlide or NoThin."""
        words = row_words(row)
        if words[0] == "surface" and len(words) == 2:
            return self.begin(words[1])
        if self.surface is None:
            raise NoRow(row)
        for name in names_asked(words):
            if name not in self.words:
                raise NoWay(name)
        if words[0] in ("judge", "show", "check"):
            return self.judge(row, words)
        if words[0] == "same":
            return self.compare(row, words[1])
        if words[0] in ("way", "drop", "cap", "slide", "back"):
            self.change(words)
            return "ok"
        return self.tell(words)

    def begin(self, surface):
        """Takes a surface; all that was kept before is let go."""
        self.surface = surface
        self.words = {}
        self.caps = ()
        self.slides = []
        return "ok"

    def judge(self, row, words):
        """The answer to judge, show and check."""
        word = read_word(words[1])
        if not is_word(len(self.surface) // 2, word):
            raise NoRow(row)
        rings = capped(self.surface, self.caps)
        if words[0] == "check":
            return "yes" if is_nothing_paper(rings, word, read_steps(words[3])) else "no"
        told = judged(rings, word)
        if words[0] == "show" and told[0] == "nothing":
            return shown_steps(told[1])
        return told[0]

    def compare(self, row, surface):
        """The answer to same."""
        if len(surface) != len(self.surface) or len(surface) == MOST_ENDS:
            raise NoRow(row)
        return same_paper(self.surface, surface)[0]

    def tell(self, words):
        """The answer to the rows that ask for what is kept, or comes of it."""
        if words[0] == "surface":
            return self.surface
        if words[0] == "holes":
            return " ".join(holes(self.surface))
        if words[0] == "handles":
            return str(handles(self.surface))
        if words[0] == "word":
            return self.words[words[1]]
        if words[0] == "ways":
            return joined(sorted(self.words))
        if words[0] == "cross":
            return str(self.count_links(words[1], words[2]))
        return joined(capped(self.surface, self.caps))

    def count_links(self, name, other):
        """How many links two ways have, or the way itself where both names are one."""
        if name == other:
            return len(links(self.surface, (self.words[name],), 0, 0))
        return len(links(self.surface, (self.words[name], self.words[other]), 0, 1))

    def change(self, words):
        """Does what a row tells that changes what is kept."""
        if words[0] == "way":
            self.keep(words[1], read_word(words[2]))
        elif words[0] == "drop":
            self.words.pop(words[1])
        elif words[0] == "cap":
            self.cap(int(words[1]), int(words[2]))
        elif words[0] == "slide":
            self.slide_on((int(words[1]), int(words[2])))
        else:
            self.slide_back()

    def keep(self, name, word):
        """Keeps a way by a name; refused with NoWay."""
        least = least_middle(word)
        if not is_way(self.surface, least):
            raise NoWay(name)
        self.words[name] = least

    def cap(self, hole, count):
        """Caps a hole so many times, or lets its cap go; refused with NoWay."""
        others = [pair for pair in self.caps if pair[0] != hole]
        if hole >= len(holes(self.surface)) or count > MOST_TIMES or (count > 0 and len(others) == MOST_CAPS):
            raise NoWay("")
        self.caps = tuple(sorted(others + [(hole, count)])) if count > 0 else tuple(others)

    def slide_on(self, slide):
        """Slides the surface; refused with NoSlide or NoWay."""
        row = slid(self.surface, slide)
        maps = maps_of(self.surface, slide)
        before = self.surface
        self.go_over(row, maps[0])
        self.slides.append((before, maps[1]))

    def slide_back(self):
        """Undoes the last slide that stands; refused with NoSlide or NoWay."""
        if len(self.slides) == 0:
            raise NoSlide(0)
        last = self.slides[-1]
        self.go_over(last[0], last[1])
        self.slides.pop()

    def go_over(self, row, change):
        """Takes a row in the surface's place; ways and caps go over by a map. Refused with NoWay, and nothing turns."""
        words = {}
        for name in sorted(self.words):
            words[name] = way_by(change, self.words[name])
            if len(words[name]) > MOST_WAY_LETTERS:
                raise NoWay(name)
        self.caps = carried_by(change, self.surface, row, self.caps)
        self.words = words
        self.surface = row


def is_nothing_paper(rings, word, steps):
    """Whether the steps are a nothing paper of the word that is let by."""
    try:
        return lets_nothing(rings, word, steps)
    except NoPaper:
        return False


def joined(words):
    """The words parted by blanks, "-" of none."""
    return " ".join(words) if len(words) > 0 else "-"
