"""The plain table: things in one form, written by steps and held to the rules of the form."""

from halfmoved.errors import BadRow, Gap, Lone, Missing, NoTable, Nowhere, Taken, Twice
from halfmoved.forms import LONE_SORTS, columns_of, copied, head_of, is_row, sort_of, tables_of
from halfmoved.kinds import is_whole


class Plain:
    def __init__(self, form, things=None):
        taken = {}
        if things is not None:
            for key, piece in things.items():
                taken[key] = copied(piece)
        ask_whole_table(form, taken)
        self.form = form
        self.things = taken

    def write(self, steps):
        # The things that the steps name, each as {table: {place: row}}: between the steps places may be passed over.
        named = {}
        for step in steps:
            ask_step(self.form, step)
            key = step[2]
            if key not in named:
                named[key] = self.by_place(key)
            do_step(named[key][step[1]], step)
        for key in sorted(named):
            ask_thing(self.form, key, named[key])
        things = self.things_behind(named)
        ask_whole_table(self.form, things)
        self.things = things
        return sorted(named)

    def by_place(self, key):
        placed = {}
        for table in tables_of(self.form):
            placed[table] = {}
            if key in self.things:
                placed[table] = dict(enumerate(self.things[key][table]))
        return placed

    def things_behind(self, named):
        # Pieces that no step names are shared with those held now: what is held is exchanged, never changed.
        kept = {}
        for key in sorted(set(self.things) | set(named)):
            if key not in named:
                kept[key] = self.things[key]
            elif has_rows(named[key]):
                kept[key] = piece_of(named[key])
        return kept

    def row(self, table, key, place=0):
        if table not in tables_of(self.form):
            raise NoTable(table, key, place)
        if key not in self.things:
            raise Missing(table, key, place)
        standing = self.things[key][table]
        if not 0 <= place < len(standing):
            raise Missing(table, key, place)
        return dict(standing[place])

    def rows(self, table):
        if table not in tables_of(self.form):
            raise NoTable(table, None, None)
        return [(key, place, dict(row)) for key, place, row in rows_in(self.things, table)]

    def piece(self, key):
        if key not in self.things:
            raise Missing(head_of(self.form), key, 0)
        return copied(self.things[key])

    def held(self):
        return sorted(self.things)


def ask_step(form, step):
    table = step[1]
    key = step[2]
    place = step[3]
    if table not in tables_of(form):
        raise NoTable(table, key, place)
    if not is_whole(key) or not 0 <= key < form[0]:
        raise BadRow(table, key, place)
    if not is_whole(place) or place < 0:
        raise BadRow(table, key, place)
    if place != 0 and sort_of(form, table) in LONE_SORTS:
        raise BadRow(table, key, place)
    if step[0] != "cut" and not is_row(form, table, step[4]):
        raise BadRow(table, key, place)


def do_step(placed, step):
    place = step[3]
    if step[0] == "add" and place in placed:
        raise Taken(step[1], step[2], place)
    if step[0] != "add" and place not in placed:
        raise Missing(step[1], step[2], place)
    if step[0] == "cut":
        placed.pop(place)
    else:
        placed[place] = dict(step[4])


def has_rows(placed):
    return any([len(rows) > 0 for rows in placed.values()])


def piece_of(placed):
    piece = {}
    for table, rows in placed.items():
        piece[table] = [rows[place] for place in sorted(rows)]
    return piece


def ask_thing(form, key, placed):
    if not has_rows(placed):
        return
    for table in tables_of(form):
        ask_places(table, sort_of(form, table), key, placed[table])


def ask_places(table, sort, key, rows):
    place = 0
    while place in rows:
        place = place + 1
    if sort in LONE_SORTS and place == 0:
        raise Lone(table, key, 0)
    if place < len(rows) or (sort == "some" and place == 0):
        raise Gap(table, key, place)


def ask_whole_table(form, things):
    for table, column in columns_by_sort(form, "once"):
        ask_once(things, table, column)
    for table, column in columns_by_sort(form, "key"):
        ask_pointers(things, table, column)


def columns_by_sort(form, sort):
    found = []
    for table in tables_of(form):
        columns = columns_of(form, table)
        for column in sorted(columns):
            if columns[column][0] == sort:
                found.append((table, column))
    return found


def ask_once(things, table, column):
    seen = {}
    for key, place, row in rows_in(things, table):
        if row[column] in seen:
            raise Twice(table, key, place)
        seen[row[column]] = True


def ask_pointers(things, table, column):
    # Behind the rules of each thing every thing has its head row, so the held keys are those of all things.
    for key, place, row in rows_in(things, table):
        if row[column] is not None and row[column] not in things:
            raise Nowhere(table, key, place)


def rows_in(things, table):
    found = []
    for key in sorted(things):
        for place, row in enumerate(things[key][table]):
            found.append((key, place, row))
    return found
