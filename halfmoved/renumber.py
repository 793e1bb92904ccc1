"""The move that gives each thing another key, and the reckoning that it needs."""

from halfmoved.forms import columns_of, copied, tables_of
from halfmoved.moves import Move, ask_fit


class Renumber(Move):
    def __init__(self, times, plus, size):
        self.times = times
        self.plus = plus
        self.size = size

    def after(self, form):
        ask_fit(form[0] == self.size and divisor(self.times, self.size) == 1)
        return form

    def before(self, form):
        return self.after(form)

    def forth(self, form, piece, rest):
        return (with_pointers(form, piece, lambda key: self.key_forth(key)), None)

    def back(self, form, piece, rest):
        return (with_pointers(form, piece, lambda key: self.key_back(key)), None)

    def key_forth(self, key):
        return (self.times * key + self.plus) % self.size

    def key_back(self, key):
        return (key - self.plus) * inverse(self.times, self.size) % self.size

    def words(self):
        return ("renumber", self.times % self.size, self.plus % self.size, self.size)


def with_pointers(form, piece, way):
    fresh = copied(piece)
    for table in tables_of(form):
        columns = columns_of(form, table)
        pointers = [column for column in columns if columns[column] == ("key",)]
        for row in fresh[table]:
            turn_pointers(row, pointers, way)
    return fresh


def turn_pointers(row, pointers, way):
    for column in pointers:
        if row[column] is not None:
            row[column] = way(row[column])


def divisor(one, other):
    greater = abs(one)
    lesser = abs(other)
    while lesser != 0:
        left_over = greater % lesser
        greater = lesser
        lesser = left_over
    return greater


def inverse(times, size):
    # Each number is kept with its factor: times * factor leaves, divided by size, what the number leaves.
    number = size
    factor = 0
    lesser = times % size
    lesser_factor = 1
    while lesser != 0:
        many = number // lesser
        left_over = number - many * lesser
        left_factor = factor - many * lesser_factor
        number = lesser
        factor = lesser_factor
        lesser = left_over
        lesser_factor = left_factor
    if number != 1:
        return None
    return factor % size
