"""What several tests need: plain things of all kinds, words one by one, thin rings."""

import copy
import itertools
import random
import unittest

from ringwords.errors import NoPaper

LETTERS = "abcdef"
BIG = LETTERS.upper()

# Of every plain kind some; none of them is a letter, a step, rings, a table or a paper.
ODD_THINGS = [
    0, 1, 2, -1, 10 ** 39, True, False, None, "?", "g", " ", "aa?", [], ["a"], {}, {"a": "a"}, {0: 1},
    ("a", 0), (0,), (None,), ((),), ([],), (True,), [[("a",)]], ("out",), ("out", 0, 0), {"out": ("a", 1)},
]

GENUS_TWO = ("abABcdCD",)
THIN_PAIR = ("aabbccd", "eeeeeee")

# Thin, each in another way: none, one and several, of one length or another, powers of a letter or of a root.
THIN_RINGS = [
    (), ("a",), ("aaaa",), ("abababababababab",), GENUS_TWO, ("abABcdCDefEF",), ("aabbccd",), THIN_PAIR,
    ("aaaaaaaaaaaaa", "bbbbbbb"), ("abABcdCD" * 2,), ("abABcdCD", "dcDCbaBA"), ("abABcdCD", "cdCDabAB", "eee"),
]

# Each goes along the next one for two letters fewer than both have together.
FIBONACCI = ("ab", "aba", "abaab", "abaababa", "abaababaabaab", "abaababaabaababaababa")


def swapped(word):
    """The back of a word, told by other means than the program's."""
    return word[::-1].swapcase()


def cancelled(word):
    """What a word is reduced to, by taking out the first such pair again and again."""
    while True:
        for place in range(len(word) - 1):
            if word[place + 1] == word[place].swapcase():
                word = word[:place] + word[place + 2:]
                break
        else:
            return word


def words(many, length):
    """All words of so many letters and this length."""
    signs = LETTERS[:many] + BIG[:many]
    return ["".join(picked) for picked in itertools.product(signs, repeat=length)]


def words_up_to(many, length):
    """All words of so many letters, of this length or shorter."""
    return [word for size in range(length + 1) for word in words(many, size)]


def picked_word(chance, many, length):
    """Some word of so many letters and this length."""
    signs = LETTERS[:many] + BIG[:many]
    return "".join(chance.choice(signs) for place in range(length))


def picked_round(chance, many, length):
    """Some round word of so many letters and this length."""
    signs = LETTERS[:many] + BIG[:many]
    while True:
        word = chance.choice(signs)
        while len(word) < length:
            word += chance.choice([sign for sign in signs if sign != word[-1].swapcase()])
        if word[0] != word[-1].swapcase():
            return word


def all_turns(rings):
    """All turns of the rings and of their backs."""
    told = set()
    for ring in rings:
        for word in (ring, swapped(ring)):
            told.update(word[place:] + word[:place] for place in range(len(word)))
    return told


def chance_of(seed):
    """A source of picks that is the same in each run."""
    return random.Random(seed)


def nested(depth):
    """A plain thing so many lists and tuples deep."""
    thing = None
    for level in range(depth):
        thing = [thing] if level % 2 else (thing,)
    return thing


def is_root(word):
    """Whether a word is a root, by the words of point 3."""
    if word == "" or cancelled(word + word) != word + word:
        return False
    return not any(word == word[:size] * (len(word) // size) for size in range(1, len(word)))


def turned(word, place):
    """The turn of a word from a place on."""
    return word[place:] + word[:place]


def all_surfaces(many):
    """All surfaces of so many letters."""
    return ["".join(row) for row in itertools.permutations(LETTERS[:many] + BIG[:many])]


def picked_surface(chance, many):
    """Some surface of so many letters."""
    signs = list(LETTERS[:many] + BIG[:many])
    chance.shuffle(signs)
    return "".join(signs)


def picked_way(chance, many, length):
    """Some way of so many letters and this length; of one letter there are but two."""
    if many == 1:
        return chance.choice("aA")
    while True:
        word = picked_round(chance, many, length)
        if is_root(word):
            return word


def picked_ways(chance, many, count, most):
    """Some ways, each of at most so many letters, perhaps turns or backs of one another."""
    ways = []
    while len(ways) < count:
        word = picked_way(chance, many, chance.randint(1, most))
        if ways and chance.random() < 0.4:
            word = chance.choice(ways)
            word = turned(word, chance.randrange(len(word)))
            word = chance.choice([word, swapped(word)])
        ways.append(word)
    return tuple(ways)


def strands_by_letter(surface, ways):
    """For each letter of the surface the strands through its band."""
    told = [[] for letter in LETTERS[:len(surface) // 2]]
    for number, way in enumerate(ways):
        for place, letter in enumerate(way):
            told[LETTERS.index(letter.lower())].append((number, place))
    return told


def all_drawings(surface, ways):
    """All drawings of the ways."""
    return list(itertools.product(*[itertools.permutations(row) for row in strands_by_letter(surface, ways)]))


def picked_drawing(chance, surface, ways):
    """Some drawing of the ways."""
    return tuple(tuple(chance.sample(row, len(row))) for row in strands_by_letter(surface, ways))


def picked_case(chance, most):
    """Some surface of one to six letters, with one to four ways of at most so many letters in all."""
    many = chance.randint(1, 6)
    count = chance.randint(1, 4)
    return picked_surface(chance, many), picked_ways(chance, many, count, max(1, min(30, most // count)))


def drawn_points(surface, drawing):
    """The points of a drawing, by the words of points 3 and 32."""
    told = []
    for end in surface:
        row = list(drawing[LETTERS.index(end.lower())])
        if end.isupper():
            row.reverse()
        told += [(end, strand) for strand in row]
    return told


def drawn_crossings(surface, ways, drawing):
    """The crossings of a drawing: each point is given to the chord that it belongs to, and these are met by turns."""
    row = []
    for end, strand in drawn_points(surface, drawing):
        way, place = strand
        comes_in = end == ways[way][place].swapcase()
        row.append(strand if comes_in else (way, (place - 1) % len(ways[way])))
    told = []
    for one, other in itertools.combinations(sorted(set(row)), 2):
        met = [strand for strand in row if strand in (one, other)]
        if met in ([one, other, one, other], [other, one, other, one]):
            told.append((one, other))
    return told


def replaced(row, place, part):
    """The tuple with another thing at a place."""
    return row[:place] + (part,) + row[place + 1:]


def is_ahead(surface, start, one, other):
    """Whether going round from the start one meets the one end ahead of the other."""
    for end in turned(surface, surface.index(start))[1:]:
        if end in (one, other):
            return end == one


def sought_links(surface, ways, i, j):
    """The links, by the words of point 34."""
    return sorted(
        {link for p in range(len(ways[i])) for q in range(len(ways[j])) for link in links_from(surface, ways, i, p, j, q)})


def links_from(surface, ways, i, p, j, q):
    def one(place):
        return ways[i][place % len(ways[i])]

    def other(place):
        return ways[j][place % len(ways[j])]

    told = []
    if (i, p) < (j, q):
        ends = [one(p).swapcase(), one(p + 1), other(q).swapcase(), other(q + 1)]
        met = [ends.index(end) // 2 for end in surface if end in ends]
        if len(set(ends)) == 4 and met in ([0, 1, 0, 1], [1, 0, 1, 0]):
            told.append(("beside", (i, p), (j, q)))
    most = len(ways[i]) + len(ways[j]) + 2
    for many in range(1, most):
        if (i, p) >= (j, q) or one(p + many - 1) != other(q + many - 1):
            break
        if one(p - 1) != other(q - 1) and one(p + many) != other(q + many):
            here = is_ahead(surface, one(p + many - 1).swapcase(), one(p + many), other(q + many))
            there = is_ahead(surface, one(p), one(p - 1).swapcase(), other(q - 1).swapcase())
            if here == there:
                told.append(("along", (i, p), (j, q), many))
    for many in range(1, most):
        if one(p + many - 1) != other(q - many + 1).swapcase():
            break
        if one(p - 1) != other(q + 1).swapcase() and one(p + many) != other(q - many).swapcase():
            here = is_ahead(surface, one(p + many - 1).swapcase(), one(p + many), other(q - many).swapcase())
            there = is_ahead(surface, one(p), one(p - 1).swapcase(), other(q + 1))
            if here == there:
                again = ((j, (q - many + 1) % len(ways[j])), (i, (p + many - 1) % len(ways[i])))
                told.append(("against",) + min(((i, p), (j, q)), again) + (many,))
    return told


def all_sought_links(surface, ways):
    """The links of all ways, by the words of point 34."""
    return sorted(
        link for i in range(len(ways)) for j in range(i, len(ways)) for link in sought_links(surface, ways, i, j))


def picked_slides(chance, surface, count):
    """Some slides that can be done, one behind the other; none where there are none."""
    slides = []
    while len(slides) < count and doable(surface):
        slide = chance.choice(doable(surface))
        slides.append(slide)
        surface = slid_by_words(surface, slide)
    return slides


def doable(surface):
    """All slides of a surface that can be done."""
    return [(place, side) for place in range(len(surface)) for side in (1, -1)
            if surface[(place + side) % len(surface)] != surface[place].swapcase()]


def slid_by_words(surface, slide):
    """The row to which a slide leads, sign by sign, by the words of point 51."""
    place, side = slide
    end = surface[place]
    beside = surface[(place + side) % len(surface)]
    row = []
    for sign in surface:
        if sign == beside.swapcase():
            row += [sign, end] if side == 1 else [end, sign]
        elif sign != end:
            row.append(sign)
    return "".join(row)


def picked_names(chance, many):
    """Some names for so many letters."""
    return tuple(chance.choice([letter, letter.upper()]) for letter in chance.sample(LETTERS[:many], many))


def renamed(row, names):
    """The row with each letter named anew."""
    told = [names[LETTERS.index(sign.lower())] for sign in row]
    return "".join(name if sign.islower() else name.swapcase() for sign, name in zip(row, told))


def picked_same(chance, one, count):
    """Some surface that is the same as the one by so many slides, a turn and names, and a paper that shows it."""
    slides = tuple(picked_slides(chance, one, count))
    row = one
    for slide in slides:
        row = slid_by_words(row, slide)
    place = chance.randrange(len(one))
    names = picked_names(chance, len(one) // 2)
    return renamed(turned(row, place), names), ("same", slides, place, names)


def bent_orders(ways, order, others):
    """Orders that are no order of the same strands, each bent at one place."""
    for place, strand in enumerate(order):
        way, at = strand
        yield order[:place] + order[place + 1:]
        yield order[:place] + (strand,) + order[place:]
        yield order + (strand,)
        for other in others:
            if other != strand:
                yield replaced(order, place, other)
        for wrong in [
                (len(ways), at), (-1, at), (way - len(ways), at), (way, len(ways[way])), (way, -1), (way, at - len(ways[way])),
                (way, at + len(ways[way])), [way, at], (way,), (at,), (way, at, 0), (strand,), way, None, "", "00", {way: at},
                {}, (), [], (str(way), at), (way, None), ((way,), at), [strand], (10 ** 39, at), (way, 10 ** 39), nested(90)]:
            yield replaced(order, place, wrong)
        if way in (0, 1):
            yield replaced(order, place, (bool(way), at))
        if at in (0, 1):
            yield replaced(order, place, (way, bool(at)))
        if way in (0, 1) and at in (0, 1):
            yield replaced(order, place, (bool(way), bool(at)))
    for other in others:
        if other not in order:
            yield order + (other,)
            yield (other,) + order
    for wrong in [list(order), None, True, False, 0, 1, "", {}, dict.fromkeys(order), (order,), order + (None,), [], order + ((),)]:
        yield wrong


def bent_drawings(surface, ways, drawing):
    """Things that are no drawing of the ways, each bent at one place."""
    others = [strand for order in drawing for strand in order]
    for number, order in enumerate(drawing):
        for bent in bent_orders(ways, order, others):
            yield replaced(drawing, number, bent)
        yield drawing[:number] + drawing[number + 1:]
        yield drawing[:number] + ((),) + drawing[number:]
        yield drawing[:number] + (order,) + drawing[number:]
    for one, other in itertools.combinations(range(len(drawing)), 2):
        for near, far in itertools.product(range(len(drawing[one])), range(len(drawing[other]))):
            bent = replaced(drawing, one, replaced(drawing[one], near, drawing[other][far]))
            yield replaced(bent, other, replaced(drawing[other], far, drawing[one][near]))
        if drawing[one] or drawing[other]:
            yield replaced(replaced(drawing, one, drawing[other]), other, drawing[one])
    yield list(drawing)
    yield dict(enumerate(drawing))
    yield (drawing,)
    yield drawing + ((),)
    yield drawing + (drawing[0],)
    yield drawing + (None,)


class CheckerTest(unittest.TestCase):
    """What tests of the papers' checkers ask."""

    def refused(self, word, at, look, *things):
        kept = copy.deepcopy(things)
        with self.assertRaises(NoPaper) as caught:
            look(*things)
        self.assertEqual((caught.exception.word, caught.exception.at), (word, at), things)
        self.assertEqual([type(caught.exception.word), type(caught.exception.at)], [str, int])
        self.assertEqual(repr(things), repr(kept))

    def let_by(self, look, *things):
        kept = copy.deepcopy(things)
        self.assertIs(look(*things), True)
        self.assertEqual(repr(things), repr(kept))
