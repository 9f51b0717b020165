"""Recurrences that the counts of words that avoid others obey at every length."""

from ringwords.avoided import followed


def recurrence(many, words):
    """Whole numbers by which each count comes of those ahead: so many lengths ahead, and so on up to one ahead."""
    states = followed(many, words)
    if len(states) == 0:
        return (0,)
    # What the square of steps makes of itself by its own polynomial is nothing (Cayley, Hamilton), and so it is with
    # the counts, which are sums of what its powers hold.
    return tuple([-number for number in polynomial(steps_between(states))])


def steps_between(states):
    """For each two states by how many letters the one leads to the other, row by row."""
    return [counted(list(states), states[state]) for state in states]


def counted(states, behind):
    """For each state how often it is among those behind."""
    return [behind.count(state) for state in states]


def polynomial(square):
    """The numbers of the square's own polynomial, from that of power 0 on, but the greatest power's, which is 1."""
    told = []
    last = 1
    made = [[0] * len(square) for row in square]
    for power in range(1, len(square) + 1):
        made = product(square, made)
        for number in range(len(square)):
            made[number][number] += last
        # This division leaves nothing over (Faddeev, LeVerrier).
        last = -traced(product(square, made)) // power
        told.insert(0, last)
    return told


def product(one, other):
    """One square times another one."""
    return [row_times(row, other) for row in one]


def row_times(row, square):
    """A row times a square: the square's rows, each so many times, added up."""
    told = [0] * len(square)
    for number, part in zip(row, square):
        told = [one + number * other for one, other in zip(told, part)]
    return told


def traced(square):
    """The numbers from corner to corner, added up."""
    return sum([square[number][number] for number in range(len(square))])
