"""Moves that lead the values of a column along a way forth and a way back."""

from halfmoved.kinds import is_plain, is_whole
from halfmoved.moves import WHOLE, Move, ask_fit, owned, values_in, with_kind, with_values


class Turn(Move):
    def __init__(self, table, column, old, new, way_forth, way_back):
        self.table = table
        self.column = column
        self.old = old
        self.new = new
        self.way_forth = way_forth
        self.way_back = way_back

    def after(self, form):
        ask_fit(is_plain(self.old) and is_plain(self.new))
        return with_kind(form, self.table, self.column, self.old, self.new)

    def before(self, form):
        ask_fit(is_plain(self.old) and is_plain(self.new))
        return with_kind(form, self.table, self.column, self.new, self.old)

    def forth(self, form, piece, rest):
        return (led_along(piece, self.table, self.column, self.way_forth), None)

    def back(self, form, piece, rest):
        return (led_along(piece, self.table, self.column, self.way_back), None)


class Shift(Turn):
    def __init__(self, table, column, by):
        # No form fits a Turn without kinds, and none is to fit a Shift by what is no whole number.
        kind = WHOLE if is_whole(by) else None
        Turn.__init__(
            self, table, column, kind, kind,
            lambda value: value + by,
            lambda value: value - by,
        )
        self.told = owned(("shift", table, column, by))

    def words(self):
        return owned(self.told)


def led_along(piece, table, column, way):
    return with_values(piece, table, column, [way(value) for value in values_in(piece, table, column)])
