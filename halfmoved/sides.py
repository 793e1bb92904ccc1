"""Moves between the head and a side table: a tuple made rows, and columns cleft off into a twin table."""

from halfmoved.forms import columns_of, copied, head_of, sort_of, tables_of, with_columns, with_table, without_table
from halfmoved.kinds import is_name, is_plain
from halfmoved.moves import Move, ask_fit, columns_in, without_column

SORT_OF_ROWS = {"list": "many", "some": "some"}
SORT_OF_TUPLES = {"many": "list", "some": "some"}


class Rows(Move):
    def __init__(self, column, side):
        self.column = column
        self.side = side

    def after(self, form):
        ask_new_side(form, self.side)
        head = head_of(form)
        columns = columns_of(form, head)
        ask_fit(self.column in columns and columns[self.column][0] in SORT_OF_ROWS)
        kind = columns.pop(self.column)
        lesser = with_columns(form, head, columns)
        return with_table(lesser, self.side, SORT_OF_ROWS[kind[0]], {self.column: kind[1]})

    def before(self, form):
        had = columns_in(form, self.side)
        sort = sort_of(form, self.side)
        ask_fit(sort in SORT_OF_TUPLES and list(had) == [self.column] and is_plain(had[self.column]))
        head = head_of(form)
        columns = columns_of(form, head)
        ask_fit(self.column not in columns)
        columns[self.column] = (SORT_OF_TUPLES[sort], had[self.column])
        return with_columns(without_table(form, self.side), head, columns)

    def forth(self, form, piece, rest):
        fresh = copied(piece)
        things = fresh[head_of(form)][0].pop(self.column)
        fresh[self.side] = [{self.column: thing} for thing in things]
        return (fresh, None)

    def back(self, form, piece, rest):
        fresh = copied(piece)
        things = [row[self.column] for row in fresh.pop(self.side)]
        fresh[head_of(form)][0][self.column] = tuple(things)
        return (fresh, None)

    def words(self):
        return ("rows", self.column, self.side)


class Cleave(Move):
    def __init__(self, side, columns):
        self.side = side
        self.columns = tuple(sorted(columns))

    def after(self, form):
        ask_new_side(form, self.side)
        head = head_of(form)
        columns = columns_of(form, head)
        ask_fit(self.tells_none_twice() and all([column in columns for column in self.columns]))
        lesser = with_columns(form, head, without(columns, self.columns))
        return with_table(lesser, self.side, "twin", picked(columns, self.columns))

    def before(self, form):
        had = columns_in(form, self.side)
        ask_fit(sort_of(form, self.side) == "twin")
        # A form's columns are sorted, and so are those told: a column that is told twice makes the lists unlike.
        ask_fit(list(had) == list(self.columns))
        head = head_of(form)
        columns = columns_of(form, head)
        ask_fit(not any([column in columns for column in self.columns]))
        columns.update(had)
        return with_columns(without_table(form, self.side), head, columns)

    def tells_none_twice(self):
        return len(set(self.columns)) == len(self.columns)

    def forth(self, form, piece, rest):
        fresh = copied(piece)
        head = head_of(form)
        row = fresh[head][0]
        fresh[head] = [without(row, self.columns)]
        fresh[self.side] = [picked(row, self.columns)]
        return (fresh, None)

    def back(self, form, piece, rest):
        fresh = copied(piece)
        twin = fresh.pop(self.side)[0]
        fresh[head_of(form)][0].update(twin)
        return (fresh, None)

    def words(self):
        return ("cleave", self.side, self.columns)


def ask_new_side(form, side):
    ask_fit(is_name(side) and side not in tables_of(form))


def picked(row, columns):
    return dict([(column, row[column]) for column in columns])


def without(row, columns):
    fresh = row
    for column in columns:
        fresh = without_column(fresh, column)
    return fresh
