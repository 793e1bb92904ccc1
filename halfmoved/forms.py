"""Forms, how they are made and told about, and the rows and pieces that they hold."""

from halfmoved.errors import NoForm, NoTable
from halfmoved.kinds import fits, is_kind, is_name, is_whole

SIDE_SORTS = ("twin", "many", "some")
LONE_SORTS = ("head", "twin")


def form_of(size, tables):
    if not is_whole(size) or size < 1:
        raise NoForm("the size is no whole number from 1 on")
    ask_sorts([sort for name, sort, columns in tables])
    ask_names([name for name, sort, columns in tables])
    made = [(name, sort, columns_made(columns)) for name, sort, columns in tables]
    sides = sorted(made[1:], key=lambda table: table[0])
    return (size, tuple(made[:1] + sides))


def ask_sorts(sorts):
    if sorts[:1] != ["head"]:
        raise NoForm("the first table is no head")
    for sort in sorts[1:]:
        if sort not in SIDE_SORTS:
            raise NoForm("a table behind the head is no side table")


def ask_names(names):
    # Anything may stand for a name, so the names are counted in a list: a dict could not take all of them.
    for name in names:
        if not is_name(name):
            raise NoForm("a table has no name")
        if names.count(name) > 1:
            raise NoForm("two tables have one name")


def columns_made(columns):
    # Names are asked ahead of the sorting, which could not compare just any things.
    for column, kind in columns.items():
        if not is_name(column):
            raise NoForm("a column has no name")
        if not is_kind(kind):
            raise NoForm("a column has no kind")
    return tuple([(column, columns[column]) for column in sorted(columns)])


def tables_of(form):
    return [entry[0] for entry in form[1]]


def head_of(form):
    return form[1][0][0]


def sort_of(form, table):
    return table_in(form, table)[1]


def columns_of(form, table):
    return dict(table_in(form, table)[2])


def table_in(form, table):
    for entry in form[1]:
        if entry[0] == table:
            return entry
    raise NoTable(table, None, None)


def parts_of(form):
    return [(name, sort, dict(columns)) for name, sort, columns in form[1]]


def with_columns(form, table, columns):
    # Looked up for the refusal: a table that is not there goes ahead of columns that are none.
    table_in(form, table)
    parts = []
    for name, sort, had in parts_of(form):
        parts.append((name, sort, columns if name == table else had))
    return form_of(form[0], parts)


def with_table(form, name, sort, columns):
    return form_of(form[0], parts_of(form) + [(name, sort, columns)])


def without_table(form, name):
    table_in(form, name)
    return form_of(form[0], [part for part in parts_of(form) if part[0] != name])


def is_row(form, table, row):
    if table not in tables_of(form) or not isinstance(row, dict):
        return False
    columns = columns_of(form, table)
    if set(row) != set(columns):
        return False
    return all([fits(kind, row[column], form[0]) for column, kind in columns.items()])


def is_piece(form, piece):
    if not isinstance(piece, dict) or set(piece) != set(tables_of(form)):
        return False
    return all([are_rows(form, table, piece[table]) for table in tables_of(form)])


def are_rows(form, table, rows):
    if not isinstance(rows, list):
        return False
    sort = sort_of(form, table)
    if sort in LONE_SORTS and len(rows) != 1:
        return False
    if sort == "some" and len(rows) == 0:
        return False
    return all([is_row(form, table, row) for row in rows])


def copied(piece):
    fresh = {}
    for table, rows in piece.items():
        fresh[table] = [dict(row) for row in rows]
    return fresh
