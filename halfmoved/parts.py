"""Moves that take a column apart: numbers into two columns, texts into the tuples of their parts."""

from halfmoved.forms import with_columns
from halfmoved.kinds import is_name, is_sign, is_whole
from halfmoved.moves import (
    WHOLE, Move, ask_fit, columns_in, owned, values_in, with_kind, with_rows, with_values, without_column,
)

WORD = ("word",)


class Part(Move):
    def __init__(self, table, column, high, low, many):
        self.table = table
        self.column = column
        self.high = high
        self.low = low
        self.many = many
        self.told = owned(("part", table, column, high, low, many))

    def after(self, form):
        columns = columns_in(form, self.table)
        ask_fit(self.is_sound() and columns.get(self.column) == WHOLE)
        columns.pop(self.column)
        ask_fit(self.high not in columns and self.low not in columns)
        columns[self.high] = WHOLE
        columns[self.low] = ("below", self.many)
        return with_columns(form, self.table, columns)

    def before(self, form):
        columns = columns_in(form, self.table)
        ask_fit(self.is_sound() and columns.get(self.high) == WHOLE)
        ask_fit(columns.get(self.low) == ("below", self.many))
        columns.pop(self.high)
        columns.pop(self.low)
        ask_fit(self.column not in columns)
        columns[self.column] = WHOLE
        return with_columns(form, self.table, columns)

    def is_sound(self):
        if not is_whole(self.many) or self.many < 1 or self.high == self.low:
            return False
        return is_name(self.column) and is_name(self.high) and is_name(self.low)

    def forth(self, form, piece, rest):
        rows = [self.parted(row) for row in piece[self.table]]
        return (with_rows(piece, self.table, rows), None)

    def back(self, form, piece, rest):
        rows = [self.joined(row) for row in piece[self.table]]
        return (with_rows(piece, self.table, rows), None)

    def parted(self, row):
        # The old column goes first, since one of the new ones may have its name; so does it in joined.
        fresh = without_column(row, self.column)
        fresh[self.high] = row[self.column] // self.many
        fresh[self.low] = row[self.column] - self.many * fresh[self.high]
        return fresh

    def joined(self, row):
        fresh = without_column(without_column(row, self.high), self.low)
        fresh[self.column] = self.many * row[self.high] + row[self.low]
        return fresh

    def words(self):
        return owned(self.told)


class Split(Move):
    def __init__(self, table, column, sign):
        self.table = table
        self.column = column
        self.sign = sign
        self.told = owned(("split", table, column, sign))

    def after(self, form):
        ask_fit(is_sign(self.sign))
        return with_kind(form, self.table, self.column, WORD, ("some", ("without", self.sign)))

    def before(self, form):
        ask_fit(is_sign(self.sign))
        return with_kind(form, self.table, self.column, ("some", ("without", self.sign)), WORD)

    def forth(self, form, piece, rest):
        parts = [tuple(text.split(self.sign)) for text in values_in(piece, self.table, self.column)]
        return (with_values(piece, self.table, self.column, parts), None)

    def back(self, form, piece, rest):
        texts = [self.sign.join(parts) for parts in values_in(piece, self.table, self.column)]
        return (with_values(piece, self.table, self.column, texts), None)

    def words(self):
        return owned(self.told)
