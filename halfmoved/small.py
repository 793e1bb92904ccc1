"""Small worlds: all pieces of a form whose values are taken from short lists."""

from halfmoved.errors import TooMany
from halfmoved.forms import LONE_SORTS, copied

MOST_PIECES = 300


def pieces_of(form, values):
    if many_pieces(form, values) > MOST_PIECES:
        raise TooMany("more small pieces than are told")
    pieces = [{}]
    for table, sort, columns in form[1]:
        pieces = grown(pieces, table, choices_of(sort, small_rows(table, columns, values)))
    # The pieces share their lists and rows until here.
    return [copied(piece) for piece in pieces]


def many_pieces(form, values):
    many = 1
    for table, sort, columns in form[1]:
        many = many * many_choices(sort, many_rows(table, columns, values))
    return many


def many_rows(table, columns, values):
    many = 1
    for column, kind in columns:
        many = many * len(values[(table, column)])
    return many


def many_choices(sort, many):
    if sort in LONE_SORTS:
        return many
    return many + many * many + (1 if sort == "many" else 0)


def small_rows(table, columns, values):
    rows = [{}]
    for column, kind in columns:
        rows = grown(rows, column, values[(table, column)])
    return rows


def choices_of(sort, rows):
    ones = [[row] for row in rows]
    if sort in LONE_SORTS:
        return ones
    nothing = [[]] if sort == "many" else []
    return nothing + ones + pairs_of(rows)


def pairs_of(rows):
    pairs = []
    for first in rows:
        pairs.extend([[first, second] for second in rows])
    return pairs


def grown(dicts, name, choices):
    made = []
    for one in dicts:
        for choice in choices:
            fresh = dict(one)
            fresh[name] = choice
            made.append(fresh)
    return made
