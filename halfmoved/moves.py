"""The move that does nothing, under which all other moves stand, and those that put, cap and rename a column."""

from halfmoved.errors import NoMove
from halfmoved.forms import columns_of, copied, tables_of, with_columns
from halfmoved.kinds import fits, is_kind, is_name, is_whole

WHOLE = ("whole",)


class Move:
    def after(self, form):
        return form

    def before(self, form):
        return form

    def forth(self, form, piece, rest):
        return (copied(piece), None)

    def back(self, form, piece, rest):
        return (copied(piece), None)

    def left(self, form, piece, rest=None):
        return None

    def right(self, form, piece, rest=None):
        return None

    def key_forth(self, key):
        return key

    def key_back(self, key):
        return key

    def keeps_forth(self):
        return True

    def keeps_back(self):
        return True

    def words(self):
        return None


class Put(Move):
    def __init__(self, table, column, kind, value):
        self.table = table
        self.column = column
        self.kind = kind
        self.value = value
        self.told = owned(("put", table, column, kind, value))

    def after(self, form):
        columns = columns_in(form, self.table)
        ask_fit(self.is_sound(form[0]) and self.column not in columns)
        columns[self.column] = self.kind
        return with_columns(form, self.table, columns)

    def before(self, form):
        columns = columns_in(form, self.table)
        ask_fit(self.is_sound(form[0]) and columns.get(self.column) == self.kind)
        columns.pop(self.column)
        return with_columns(form, self.table, columns)

    def is_sound(self, size):
        if not is_name(self.column) or not is_kind(self.kind) or self.kind[0] in ("key", "once"):
            return False
        return fits(self.kind, self.value, size)

    def forth(self, form, piece, rest):
        return (with_values(piece, self.table, self.column, rest), None)

    def back(self, form, piece, rest):
        rows = [without_column(row, self.column) for row in piece[self.table]]
        return (with_rows(piece, self.table, rows), values_in(piece, self.table, self.column))

    def left(self, form, piece, rest=None):
        return [at_place(rest, place, self.value) for place in range(len(piece[self.table]))]

    def keeps_back(self):
        return False

    def words(self):
        return owned(self.told)


class Cap(Move):
    def __init__(self, table, column, top):
        self.table = table
        self.column = column
        self.top = top
        self.told = owned(("cap", table, column, top))

    def after(self, form):
        ask_fit(is_whole(self.top))
        return with_kind(form, self.table, self.column, WHOLE, ("upto", self.top))

    def before(self, form):
        ask_fit(is_whole(self.top))
        return with_kind(form, self.table, self.column, ("upto", self.top), WHOLE)

    def forth(self, form, piece, rest):
        numbers = values_in(piece, self.table, self.column)
        capped = [min(number, self.top) for number in numbers]
        above = [number if number > self.top else None for number in numbers]
        return (with_values(piece, self.table, self.column, capped), above)

    def back(self, form, piece, rest):
        numbers = values_in(piece, self.table, self.column)
        raised = [number if above is None else above for number, above in zip(numbers, rest)]
        return (with_values(piece, self.table, self.column, raised), None)

    def right(self, form, piece, rest=None):
        numbers = values_in(piece, self.table, self.column)
        return [at_place(rest, place, None) if number == self.top else None for place, number in enumerate(numbers)]

    def keeps_forth(self):
        return False

    def words(self):
        return owned(self.told)


class Rename(Move):
    def __init__(self, table, column, name):
        self.table = table
        self.column = column
        self.name = name
        self.told = owned(("rename", table, column, name))

    def after(self, form):
        return self.led(form, self.column, self.name)

    def before(self, form):
        return self.led(form, self.name, self.column)

    def led(self, form, column, name):
        columns = columns_in(form, self.table)
        ask_fit(is_name(column) and is_name(name))
        ask_fit(column in columns and name not in columns)
        return with_columns(form, self.table, renamed(columns, column, name))

    def forth(self, form, piece, rest):
        rows = [renamed(row, self.column, self.name) for row in piece[self.table]]
        return (with_rows(piece, self.table, rows), None)

    def back(self, form, piece, rest):
        rows = [renamed(row, self.name, self.column) for row in piece[self.table]]
        return (with_rows(piece, self.table, rows), None)

    def words(self):
        return owned(self.told)


def ask_fit(fine):
    if not fine:
        raise NoMove()


def columns_in(form, table):
    ask_fit(table in tables_of(form))
    return columns_of(form, table)


def with_kind(form, table, column, old, new):
    columns = columns_in(form, table)
    # The name is asked first: a dict could not look for just any thing.
    ask_fit(is_name(column) and columns.get(column) == old)
    columns[column] = new
    return with_columns(form, table, columns)


def with_rows(piece, table, rows):
    fresh = copied(piece)
    fresh[table] = rows
    return fresh


def with_values(piece, table, column, values):
    fresh = copied(piece)
    for row, value in zip(fresh[table], values):
        row[column] = value
    return fresh


def values_in(piece, table, column):
    return [row[column] for row in piece[table]]


def without_column(row, column):
    fresh = dict(row)
    fresh.pop(column)
    return fresh


def renamed(columns, column, name):
    fresh = without_column(columns, column)
    fresh[name] = columns[column]
    return fresh


def at_place(rest, place, other):
    if rest is None or place >= len(rest):
        return other
    return rest[place]


def owned(thing, depth=20):
    # Words hold whatever was handed in, lists and dicts too, and the asker may change those later.
    # What lies deeper than any kind or value is kept as it is: a list might hold itself.
    if depth == 0:
        return thing
    if isinstance(thing, list):
        return [owned(part, depth - 1) for part in thing]
    if isinstance(thing, tuple):
        return tuple([owned(part, depth - 1) for part in thing])
    if isinstance(thing, dict):
        return dict([(key, owned(part, depth - 1)) for key, part in thing.items()])
    return thing
