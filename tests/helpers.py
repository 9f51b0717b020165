"""What several tests need: plain things of all kinds, words one by one, thin rings."""

import itertools
import random

LETTERS = "abcdef"
BIG = LETTERS.upper()

# Of every plain kind some; none of them is a letter, a step, rings, a table or a paper.
ODD_THINGS = [
    0, 1, 2, -1, 10 ** 39, True, False, None, "?", "g", " ", "aa?", [], ["a"], {}, {"a": "a"}, {0: 1},
    ("a", 0), (0,), (None,), ((),), ([],), (True,), [[("a",)]], ("out",), ("out", 0, 0), {"out": ("a", 1)},
]

GENUS_TWO = ("abABcdCD",)
THIN_PAIR = ("aabbccd", "eeeeeee")

# Thin, each in another way: none, one and several, of one length or another, powers of a letter or of a root.
THIN_RINGS = [
    (), ("a",), ("aaaa",), ("abababababababab",), GENUS_TWO, ("abABcdCDefEF",), ("aabbccd",), THIN_PAIR,
    ("aaaaaaaaaaaaa", "bbbbbbb"), ("abABcdCD" * 2,), ("abABcdCD", "dcDCbaBA"), ("abABcdCD", "cdCDabAB", "eee"),
]


def swapped(word):
    """The back of a word, told by other means than the program's."""
    return word[::-1].swapcase()


def cancelled(word):
    """What a word is reduced to, by taking out the first such pair again and again."""
    while True:
        for place in range(len(word) - 1):
            if word[place + 1] == word[place].swapcase():
                word = word[:place] + word[place + 2:]
                break
        else:
            return word


def words(many, length):
    """All words of so many letters and this length."""
    signs = LETTERS[:many] + BIG[:many]
    return ["".join(picked) for picked in itertools.product(signs, repeat=length)]


def words_up_to(many, length):
    """All words of so many letters, of this length or shorter."""
    return [word for size in range(length + 1) for word in words(many, size)]


def picked_word(chance, many, length):
    """Some word of so many letters and this length."""
    signs = LETTERS[:many] + BIG[:many]
    return "".join(chance.choice(signs) for place in range(length))


def picked_round(chance, many, length):
    """Some round word of so many letters and this length."""
    signs = LETTERS[:many] + BIG[:many]
    while True:
        word = chance.choice(signs)
        while len(word) < length:
            word += chance.choice([sign for sign in signs if sign != word[-1].swapcase()])
        if word[0] != word[-1].swapcase():
            return word


def all_turns(rings):
    """All turns of the rings and of their backs."""
    told = set()
    for ring in rings:
        for word in (ring, swapped(ring)):
            told.update(word[place:] + word[:place] for place in range(len(word)))
    return told


def chance_of(seed):
    """A source of picks that is the same in each run."""
    return random.Random(seed)


def nested(depth):
    """A plain thing so many lists and tuples deep."""
    thing = None
    for level in range(depth):
        thing = [thing] if level % 2 else (thing,)
    return thing


def is_root(word):
    """Whether a word is a root, by the words of point 3."""
    if word == "" or cancelled(word + word) != word + word:
        return False
    return not any(word == word[:size] * (len(word) // size) for size in range(1, len(word)))


def turned(word, place):
    """The turn of a word from a place on."""
    return word[place:] + word[:place]


def all_surfaces(many):
    """All surfaces of so many letters."""
    return ["".join(row) for row in itertools.permutations(LETTERS[:many] + BIG[:many])]


def picked_surface(chance, many):
    """Some surface of so many letters."""
    signs = list(LETTERS[:many] + BIG[:many])
    chance.shuffle(signs)
    return "".join(signs)


def picked_way(chance, many, length):
    """Some way of so many letters and this length; of one letter there are but two."""
    if many == 1:
        return chance.choice("aA")
    while True:
        word = picked_round(chance, many, length)
        if is_root(word):
            return word


def picked_ways(chance, many, count, most):
    """Some ways, each of at most so many letters, perhaps turns or backs of one another."""
    ways = []
    while len(ways) < count:
        word = picked_way(chance, many, chance.randint(1, most))
        if ways and chance.random() < 0.4:
            word = chance.choice(ways)
            word = turned(word, chance.randrange(len(word)))
            word = chance.choice([word, swapped(word)])
        ways.append(word)
    return tuple(ways)


def strands_by_letter(surface, ways):
    """For each letter of the surface the strands through its band."""
    told = [[] for letter in LETTERS[:len(surface) // 2]]
    for number, way in enumerate(ways):
        for place, letter in enumerate(way):
            told[LETTERS.index(letter.lower())].append((number, place))
    return told


def all_drawings(surface, ways):
    """All drawings of the ways."""
    return list(itertools.product(*[itertools.permutations(row) for row in strands_by_letter(surface, ways)]))


def picked_drawing(chance, surface, ways):
    """Some drawing of the ways."""
    return tuple(tuple(chance.sample(row, len(row))) for row in strands_by_letter(surface, ways))


def picked_case(chance, most):
    """Some surface of one to six letters, with one to four ways of at most so many letters in all."""
    many = chance.randint(1, 6)
    count = chance.randint(1, 4)
    return picked_surface(chance, many), picked_ways(chance, many, count, max(1, min(30, most // count)))


def drawn_points(surface, drawing):
    """The points of a drawing, by the words of points 3 and 32."""
    told = []
    for end in surface:
        row = list(drawing[LETTERS.index(end.lower())])
        if end.isupper():
            row.reverse()
        told += [(end, strand) for strand in row]
    return told


def drawn_crossings(surface, ways, drawing):
    """The crossings of a drawing: each point is given to the chord that it belongs to, and these are met by turns."""
    row = []
    for end, strand in drawn_points(surface, drawing):
        way, place = strand
        comes_in = end == ways[way][place].swapcase()
        row.append(strand if comes_in else (way, (place - 1) % len(ways[way])))
    told = []
    for one, other in itertools.combinations(sorted(set(row)), 2):
        met = [strand for strand in row if strand in (one, other)]
        if met in ([one, other, one, other], [other, one, other, one]):
            told.append((one, other))
    return told


def replaced(row, place, part):
    """The tuple with another thing at a place."""
    return row[:place] + (part,) + row[place + 1:]
