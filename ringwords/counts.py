"""How many words there are by length: reduced ones, round ones, those alike by turns, those that avoid others."""

from ringwords.avoided import followed


def reduced_count(many, length):
    """How many words of so many letters and this length are reduced."""
    if length == 0:
        return 1
    return 2 * many * raised(2 * many - 1, length - 1)


def raised(base, number):
    """The base times itself so many times."""
    told = 1
    for turn in range(number):
        told *= base
    return told


def round_count(many, length):
    """How many words of so many letters and this length are round."""
    if length == 0:
        return 1
    # Closed to a ring, each letter may be followed by any but its back: the closed walks on the letters, of which the
    # steps have the proper number 2 many - 1 once, 1 many times, and -1 many - 1 times.
    signs = 1 if length % 2 == 0 else -1
    return raised(2 * many - 1, length) + many + signs * (many - 1)


def turned_count(many, length):
    """How many sets of round words of this length there are, each word a turn of each."""
    if length == 0:
        return 1
    # Each round word is one root, some times one behind the other.
    return sum([root_count(many, size) for size in divisors(length)])


def root_count(many, length):
    """How many such sets of roots there are."""
    if length == 0:
        return 0
    shorter = [size * root_count(many, size) for size in divisors(length) if size < length]
    # A root has as many turns, all unlike, as it has letters.
    return (round_count(many, length) - sum(shorter)) // length


def divisors(length):
    """The numbers that divide the length."""
    return [size for size in range(1, length + 1) if length % size == 0]


def avoiding(many, words, most):
    """For each length from 0 to most how many reduced words have none of the words within."""
    states = followed(many, words)
    reached = {"": 1} if "" in states else {}
    told = []
    for length in range(most + 1):
        told.append(sum(reached.values()))
        reached = one_letter_on(states, reached)
    return told


def one_letter_on(states, reached):
    """By how many words one letter longer each state is reached."""
    found = {}
    for state in reached:
        for behind in states[state]:
            found[behind] = found.get(behind, 0) + reached[state]
    return found
