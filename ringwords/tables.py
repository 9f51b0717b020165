"""Tables of seats: where words lead in them, and whether rings fit."""

from ringwords.letters import SMALL, back
from ringwords.whole import is_whole

MOST_SEATS = 1001


def is_table(many, thing):
    """Whether any plain thing is a table of so many letters."""
    if not isinstance(thing, tuple) or len(thing) != many:
        return False
    return all([is_row(row) for row in thing]) and len(set([len(row) for row in thing])) == 1


def is_row(thing):
    """Whether any plain thing is a tuple in which each number below its length stands once."""
    if not isinstance(thing, tuple) or not 1 <= len(thing) <= MOST_SEATS:
        return False
    return all([is_whole(seat) for seat in thing]) and sorted(thing) == list(range(len(thing)))


def led(table, seat, word):
    """The seat to which the word leads from this one."""
    rows = rows_of(table)
    for letter in word:
        seat = rows[letter][seat]
    return seat


def rows_of(table):
    """For each letter, small and big, where it leads each seat."""
    rows = {}
    for letter, row in zip(SMALL, table):
        rows[letter] = row
        rows[back(letter)] = turned_row(row)
    return rows


def turned_row(row):
    """Where the big letter of a small one's row leads each seat."""
    seats = [0] * len(row)
    for seat, other in enumerate(row):
        seats[other] = seat
    return seats


def unkept(rings, table):
    """The number of the first ring that leads some seat to another one, or None."""
    rows = rows_of(table)
    for number, ring in enumerate(rings):
        first = list(range(len(table[0])))
        seats = first
        for letter in ring:
            seats = [rows[letter][seat] for seat in seats]
        if seats != first:
            return number
    return None


def lined(many, word):
    """A table in which the reduced word leads seat 0 along all seats to the last one."""
    return tuple([lined_row(letter, word) for letter in SMALL[:many]])


def lined_row(letter, word):
    """The row of a small letter: its steps along the word, and the seats left over as they come."""
    known = {}
    taken = {}
    for place, sign in enumerate(word):
        if sign == letter:
            known[place] = place + 1
            taken[place + 1] = True
        elif sign == back(letter):
            known[place + 1] = place
            taken[place] = True
    seats = list(range(len(word) + 1))
    # As many seats lack a lead as are led to by none, since no two are led to one.
    spare = dict(zip([seat for seat in seats if seat not in known], [seat for seat in seats if seat not in taken]))
    return tuple([known[seat] if seat in known else spare[seat] for seat in seats])
