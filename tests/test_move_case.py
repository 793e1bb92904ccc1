"""What the tests of all moves share: forms and pieces with tables of every sort, and what every move is held to."""

import unittest
from copy import deepcopy

from halfmoved.errors import NoMove
from halfmoved.forms import columns_of, form_of, is_piece, with_columns

TABLES = ("main", "few", "lots", "pair")
SORTS = {"main": "head", "few": "some", "lots": "many", "pair": "twin"}
COLUMNS = {
    "b": ("below", 4), "k": ("key",), "l": ("list", ("word",)), "n": ("whole",), "o": ("once", ("whole",)),
    "s": ("some", ("below", 3)), "u": ("upto", 5), "w": ("word",), "x": ("without", "/"),
}
SIZE = 50
KINDS = [
    ("whole",), ("below", 1), ("below", 4), ("below", 5), ("upto", 5), ("upto", -1), ("upto", 6), ("word",),
    ("without", "/"), ("without", " "), ("key",), ("list", ("whole",)), ("list", ("word",)), ("some", ("whole",)),
    ("some", ("without", "/")), ("list", ("without", "/")), ("some", ("word",)), ("once", ("whole",)),
    ("once", ("word",)), ("once", ("upto", 5)), ("once", ("below", 4)), ("some", ("without", ",")),
]
PLAIN_SORTS = ("whole", "below", "upto", "word", "without")
NOT_PLAIN = [kind for kind in KINDS if kind[0] not in PLAIN_SORTS]

ODD_THINGS = [
    None, True, False, 1.0, [], {}, (), [[]], {"a": [None]}, ((), {}), [None], ("main",), ["main"], {"main": "main"},
    ("n",), ["n"], {"n": ("whole",)}, [("n",)], ([],),
]
ODD_TABLES = ODD_THINGS + [0, 1, "", "none", "Main", "main ", "mai"]
ODD_NAMES = ODD_THINGS + [0, 1, "", "N", "n1", "a b", " ", "a_b", "a-b", "abcdefghi"]
ODD_KINDS = ODD_THINGS + [
    0, 5, "whole", "", "key", ["whole"], ("whole", 1), ("whole", None), ("below",), ("below", 0), ("below", -1),
    ("below", True), ("below", "4"), ("below", 4, 4), ["below", 4], ("upto",), ("upto", None), ("upto", True),
    ("upto", [5]), ("without",), ("without", ""), ("without", "ab"), ("without", 5), ("without", ["/"]), ("word", "a"),
    ("Word",), ("key", 1), ("list",), ("list", "whole"), ("list", ["whole"]), ("list", ("key",)),
    ("list", ("list", ("whole",))), ("some", ("once", ("whole",))), ("once", ("key",)), ("once",), (("whole",),),
    ([],), ({}, 4), ("number",), ("twin", ("whole",)),
]
ODD_NUMBERS = ODD_THINGS + ["", "5", "0", 5.0, (5,), [5], {5: 5}, ("whole",)]
ODD_SIGNS = ODD_THINGS + [0, 5, "", "ab", "//", ("/",), ["/"], {"/": "/"}, ("without", "/")]

LONG = 10 ** 299 + 7


def whole_form():
    return form_of(SIZE, [(table, SORTS[table], COLUMNS) for table in TABLES])


def other_columns(form, table, **changes):
    # None leaves a column out.
    columns = columns_of(form, table)
    for column, kind in changes.items():
        columns.pop(column, None)
        if kind is not None:
            columns[column] = kind
    return with_columns(form, table, columns)


def small_form(table, **columns):
    # One table with just these columns, the others without any.
    return form_of(SIZE, [(name, SORTS[name], columns if name == table else {}) for name in TABLES])


def row_of(count, **changes):
    row = {
        "b": count % 4, "k": None if count % 3 == 0 else count % SIZE, "l": ("a", "") * (count % 3), "n": 7 * count - 20,
        "o": count, "s": (count % 3,) * (1 + count % 2), "u": 5 - count, "w": "w/" * (count % 4) + str(count), "x": "x " * count,
    }
    row.update(changes)
    return row


def piece_of(many, few=1):
    # Each row is unlike all others, so that no two can be taken for one another.
    return {
        "main": [row_of(1)],
        "few": [row_of(10 + place) for place in range(few)],
        "lots": [row_of(30 + place) for place in range(many)],
        "pair": [row_of(2)],
    }


def pieces():
    return [piece_of(0), piece_of(1), piece_of(2, 2), piece_of(5, 3)]


def with_values(piece, table, column, values):
    # The same piece with other values of one column: as many rows of the table as there are values.
    changed = deepcopy(piece)
    rows = changed[table] or [row_of(0)]
    changed[table] = [dict(rows[place % len(rows)], **{column: value}) for place, value in enumerate(values)]
    return changed


def mapped(piece, table, way):
    changed = deepcopy(piece)
    changed[table] = [way(dict(row)) for row in changed[table]]
    return changed


def exact(thing):
    # In Python True equals 1, and 1.0 as well; here they are unlike. The order of a dict counts for nothing.
    if isinstance(thing, dict):
        return ("dict", sorted([(repr(key), exact(value)) for key, value in thing.items()]))
    if isinstance(thing, (list, tuple)):
        return (type(thing).__name__, [exact(part) for part in thing])
    return (type(thing).__name__, thing)


def scribble(thing):
    # Changes all that can be changed in a thing, however deep it lies.
    if isinstance(thing, (list, tuple)):
        for part in thing:
            scribble(part)
    if isinstance(thing, dict):
        for part in list(thing.values()):
            scribble(part)
        thing["scribble"] = "scribble"
    if isinstance(thing, list):
        thing.reverse()
        thing.append("scribble")


class MoveCase(unittest.TestCase):
    def same(self, told, wanted):
        self.assertEqual(exact(told), exact(wanted))

    def no_move(self, ask, form):
        with self.assertRaises(NoMove) as caught:
            ask(form)
        self.assertIs(type(caught.exception), NoMove)
        self.same(caught.exception.move, 0)

    def no_old(self, move, form):
        self.no_move(move.after, form)

    def no_new(self, move, form):
        self.no_move(move.before, form)

    def leads(self, move, old, new):
        self.same(move.after(old), new)
        self.same(move.before(new), old)

    def goes_forth(self, move, old, piece, left, wanted, right):
        self.assertTrue(is_piece(old, piece) and is_piece(move.after(old), wanted))
        self.tells(move.forth, old, piece, left, (wanted, right))

    def goes_back(self, move, old, piece, right, wanted, left):
        new = move.after(old)
        self.assertTrue(is_piece(new, piece) and is_piece(old, wanted))
        self.tells(move.back, new, piece, right, (wanted, left))

    def goes(self, move, old, piece, left, came, right):
        # An old piece and its left rest, the new piece and its right rest that belong together.
        self.goes_forth(move, old, piece, left, came, right)
        self.goes_back(move, old, came, right, piece, left)
        self.rest_given(move.left, old, piece, left, left)
        self.rest_given(move.right, move.after(old), came, right, right)

    def rest_given(self, ask, form, piece, earlier, wanted):
        self.assertTrue(is_piece(form, piece))
        self.tells(ask, form, piece, earlier, wanted)
        self.same(ask(form, deepcopy(piece), deepcopy(wanted)), wanted)

    def tells(self, ask, form, piece, rest, wanted):
        # What is handed in stays, what is told is new, and what becomes of either changes no later answer.
        handed = deepcopy((piece, rest))
        told = ask(form, handed[0], handed[1])
        self.same(told, wanted)
        self.same(handed, (piece, rest))
        self.shares_nothing(told, handed)
        self.same(ask(form, deepcopy(piece), deepcopy(rest)), wanted)

    def fresh_rest(self, ask, form, piece, wanted):
        self.rest_given(ask, form, piece, None, wanted)
        self.same(ask(form, deepcopy(piece)), wanted)

    def shares_nothing(self, told, handed):
        before = exact(told)
        scribble(handed)
        self.assertEqual(exact(told), before)
        handed_now = exact(handed)
        scribble(told)
        self.assertEqual(exact(handed), handed_now)

    def keeps(self, move, forth, back):
        self.assertIs(move.keeps_forth(), forth)
        self.assertIs(move.keeps_back(), back)

    def leaves_keys(self, move):
        for key in (0, 1, 2, 7, SIZE - 1, 10 ** 12 - 1):
            self.same(move.key_forth(key), key)
            self.same(move.key_back(key), key)

    def has_no_rests(self, move, old, piece, came):
        # A move whose rests are both None.
        self.goes(move, old, piece, None, came, None)
        self.fresh_rest(move.left, old, piece, None)
        self.fresh_rest(move.right, move.after(old), came, None)

    def words_are(self, move, wanted):
        self.same(move.words(), wanted)
        self.same(move.words(), wanted)


class TestPieces(unittest.TestCase):
    def test_they_are_pieces_of_the_form(self):
        form = whole_form()
        for piece in pieces():
            self.assertTrue(is_piece(form, piece))
        self.assertEqual([len(piece["lots"]) for piece in pieces()], [0, 1, 2, 5])
        self.assertEqual([len(piece["few"]) for piece in pieces()], [1, 1, 2, 3])

    def test_truths_and_numbers_are_unlike(self):
        self.assertNotEqual(exact({"a": (1,)}), exact({"a": (True,)}))
        self.assertNotEqual(exact([1]), exact((1,)))
        self.assertEqual(exact({"a": 1, "b": 2}), exact({"b": 2, "a": 1}))


if __name__ == "__main__":
    unittest.main()
