"""Seats sought: tables that rings fit and in which a word moves a seat."""

from ringwords.tables import led, unkept


def seated(many, rings, word, most):
    """A pair (table, seat) that shows the word is not nothing, of at most so many seats; None where there is none."""
    for seats in range(1, most + 1):
        rows = rows_with(seats)
        for number in range(count_of(rows, many)):
            table = table_of(rows, many, number)
            # A table whose seats are named anew is another one here, so a word that moves a seat moves some table's 0.
            if led(table, 0, word) != 0 and unkept(rings, table) is None:
                return (table, 0)
    return None


def rows_with(seats):
    """All rows of so many seats."""
    rows = [()]
    for seat in range(seats):
        longer = []
        for row in rows:
            longer.extend([row[:place] + (seat,) + row[place:] for place in range(seat + 1)])
        rows = longer
    return rows


def count_of(rows, many):
    """How many tables of so many letters have these rows."""
    count = 1
    for letter in range(many):
        count = count * len(rows)
    return count


def table_of(rows, many, number):
    """The table of this number, of all that have these rows."""
    table = []
    for letter in range(many):
        table.append(rows[number % len(rows)])
        number = number // len(rows)
    return tuple(table)
