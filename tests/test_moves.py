"""Points 30 to 35, and 39 for their words: Move, Put, Cap and Rename."""

import unittest

from halfmoved.forms import form_of
from halfmoved.moves import Cap, Move, Put, Rename
from halfmoved.parts import Part, Split
from halfmoved.renumber import Renumber
from halfmoved.turns import Shift, Turn
from test_move_case import (
    COLUMNS, KINDS, LONG, ODD_KINDS, ODD_NAMES, ODD_NUMBERS, ODD_TABLES, ODD_THINGS, TABLES, MoveCase, mapped, other_columns,
    piece_of, pieces, small_form, whole_form, with_values,
)

FORM = whole_form()
PUT_KINDS = [
    (("whole",), 0), (("whole",), -LONG), (("below", 3), 0), (("below", 3), 2), (("upto", -4), -4), (("upto", 7), -9),
    (("word",), ""), (("word",), "some words"), (("without", "/"), "a,b"), (("without", "a"), ""), (("list", ("word",)), ()),
    (("list", ("whole",)), (3, 1, 3)), (("some", ("below", 2)), (0,)), (("some", ("without", " ")), ("", "a", "")),
]


class TestMoveItself(MoveCase):
    def test_every_form_fits_and_stays(self):
        for form in (FORM, form_of(1, [("a", "head", {})]), form_of(10 ** 12, [("zed", "head", COLUMNS), ("a", "many", {})])):
            self.leads(Move(), form, form)

    def test_pieces_stay_and_are_new(self):
        for piece in pieces():
            self.has_no_rests(Move(), FORM, piece, piece)

    def test_a_form_of_the_head_alone(self):
        form = form_of(1, [("a", "head", {})])
        self.has_no_rests(Move(), form, {"a": [{}]}, {"a": [{}]})

    def test_keys_stay(self):
        self.leaves_keys(Move())

    def test_it_keeps_both_ways(self):
        self.keeps(Move(), True, True)

    def test_it_has_no_words(self):
        self.assertIsNone(Move().words())

    def test_under_what_each_move_stands(self):
        for move in (Put, Cap, Rename, Part, Split, Turn, Renumber):
            self.assertEqual(move.__bases__, (Move,))
        self.assertEqual(Shift.__bases__, (Turn,))


def put_into(row, value):
    row["new"] = value
    return row


class TestPutForms(MoveCase):
    def test_a_column_more(self):
        for table in TABLES:
            for kind, value in PUT_KINDS:
                with self.subTest(table=table, kind=kind):
                    self.leads(Put(table, "new", kind, value), FORM, other_columns(FORM, table, new=kind))

    def test_into_a_table_without_columns(self):
        for table in TABLES:
            self.leads(Put(table, "a", ("word",), ""), small_form(table), small_form(table, a=("word",)))

    def test_what_other_tables_have_is_no_matter(self):
        for table in TABLES:
            old = other_columns(FORM, table, n=None)
            self.leads(Put(table, "n", ("word",), "a"), old, other_columns(FORM, table, n=("word",)))

    def test_names_at_their_edges(self):
        for name in ("a", "z", "zzzzzzzz", "abcdefgh", "main"):
            self.leads(Put("lots", name, ("whole",), 1), FORM, other_columns(FORM, "lots", **{name: ("whole",)}))

    def test_a_table_that_is_not_there(self):
        for table in ODD_TABLES:
            with self.subTest(table=table):
                self.no_old(Put(table, "new", ("whole",), 1), FORM)
                self.no_new(Put(table, "n", ("whole",), 1), FORM)

    def test_old_with_such_a_column(self):
        for table in TABLES:
            for column, kind in COLUMNS.items():
                self.no_old(Put(table, column, ("whole",), 1), FORM)
            self.no_old(Put(table, "w", ("word",), ""), FORM)

    def test_new_without_such_a_column(self):
        for table in TABLES:
            self.no_new(Put(table, "new", ("whole",), 1), FORM)
            self.no_new(Put(table, "n", ("whole",), 1), other_columns(FORM, table, n=None))

    def test_new_with_a_column_of_another_kind(self):
        for kind, value in PUT_KINDS:
            for other in KINDS:
                if other != kind:
                    with self.subTest(kind=kind, other=other):
                        self.no_new(Put("few", "new", kind, value), other_columns(FORM, "few", new=other))

    def test_the_column_is_no_name(self):
        for column in ODD_NAMES:
            with self.subTest(column=column):
                self.no_old(Put("main", column, ("whole",), 1), FORM)
                self.no_new(Put("main", column, ("whole",), 1), FORM)

    def test_the_kind_is_none(self):
        for kind in ODD_KINDS:
            for value in (0, "", (), None):
                with self.subTest(kind=kind, value=value):
                    self.no_old(Put("pair", "new", kind, value), FORM)
                    self.no_new(Put("pair", "n", kind, value), FORM)

    def test_a_kind_that_equals_one_and_is_none(self):
        for good, kind in ((("below", 1), ("below", True)), (("upto", 1), ("upto", True)), (("upto", 5), ("upto", 5.0))):
            self.no_new(Put("main", "new", kind, 0), other_columns(FORM, "main", new=good))
            self.no_new(Put("main", "new", ("list", kind), ()), other_columns(FORM, "main", new=("list", good)))

    def test_neither_key_nor_once(self):
        for kind, values in ((("key",), (None, 0, 1)), (("once", ("whole",)), (0, 5)), (("once", ("word",)), ("", "a"))):
            for value in values:
                with self.subTest(kind=kind, value=value):
                    self.no_old(Put("lots", "new", kind, value), FORM)
                    self.no_new(Put("lots", "new", kind, value), other_columns(FORM, "lots", new=kind))

    def test_a_value_that_does_not_fit(self):
        bad = {
            ("whole",): ODD_THINGS + ["", "1", (1,)],
            ("below", 4): ODD_THINGS + [-1, 4, 5, LONG, "", (1,)],
            ("upto", 5): ODD_THINGS + [6, LONG, "", (1,)],
            ("word",): ODD_THINGS + [0, 1, ("a",)],
            ("without", "/"): ODD_THINGS + [0, "/", "a/", "/a", "a/b"],
            ("list", ("whole",)): [None, True, [], {}, [1], ("1",), (True,), (1, None), ((1,),), 1, ""],
            ("some", ("below", 3)): [None, True, (), [], {}, [1], (3,), (1, -1), (True,), 1, ""],
            ("list", ("without", ",")): [None, [], "a", (",",), ("a", "b,"), (1,)],
        }
        for kind, values in bad.items():
            new = other_columns(FORM, "main", new=kind)
            for value in values:
                with self.subTest(kind=kind, value=value):
                    self.no_old(Put("main", "new", kind, value), FORM)
                    self.no_new(Put("main", "new", kind, value), new)


class TestPutPieces(MoveCase):
    def test_a_fresh_piece_gets_the_value(self):
        for table in TABLES:
            for kind, value in PUT_KINDS:
                move = Put(table, "new", kind, value)
                for piece in pieces():
                    left = [value for row in piece[table]]
                    self.fresh_rest(move.left, FORM, piece, left)
                    self.goes(move, FORM, piece, left, mapped(piece, table, lambda row: put_into(row, value)), None)

    def test_each_row_has_its_own(self):
        for table in TABLES:
            move = Put(table, "new", ("whole",), 9)
            for piece in pieces():
                left = [place * 100 - 5 for place in range(len(piece[table]))]
                values = list(left)
                came = mapped(piece, table, lambda row: put_into(row, values.pop(0)))
                self.goes(move, FORM, piece, left, came, None)

    def test_texts_and_tuples(self):
        for kind, value, left in (
            (("word",), "a", ["", "b", "a", "b", " "]),
            (("list", ("whole",)), (1, 2), [(), (1, 2), (3,), (2, 1), ()]),
            (("some", ("word",)), ("",), [("",), ("a", ""), ("",), ("b",), ("",)]),
        ):
            move = Put("lots", "new", kind, value)
            values = list(left)
            came = mapped(piece_of(5), "lots", lambda row: put_into(row, values.pop(0)))
            self.goes(move, FORM, piece_of(5), left, came, None)

    def test_a_table_without_other_columns(self):
        for table in TABLES:
            form = small_form(table)
            piece = {name: [] if name == "lots" else [{}] for name in TABLES}
            piece[table] = [{}]
            came = dict(piece, **{table: [{"a": 3}]})
            self.goes(Put(table, "a", ("whole",), 0), form, piece, [3], came, None)

    def test_an_earlier_rest_by_place(self):
        for table, rows in (("lots", 3), ("few", 3)):
            piece = piece_of(rows, rows)
            move = Put(table, "new", ("whole",), 9)
            for earlier, left in (
                ([1], [1, 9, 9]), ([1, 2], [1, 2, 9]), ([9, 9], [9, 9, 9]), ([3, 2, 1], [3, 2, 1]), ([0, 0, 0], [0, 0, 0]),
                ([4, 3, 2, 1], [4, 3, 2]), ([1, 2, 3, 4, 5, 6], [1, 2, 3]), ([9, 1, 9, 1], [9, 1, 9]),
            ):
                with self.subTest(table=table, earlier=earlier):
                    self.rest_given(move.left, FORM, piece, earlier, left)
                    values = list(left)
                    came = mapped(piece, table, lambda row: put_into(row, values.pop(0)))
                    self.goes(move, FORM, piece, left, came, None)

    def test_an_earlier_rest_of_no_row_and_for_no_row(self):
        move = Put("lots", "new", ("word",), "v")
        self.rest_given(move.left, FORM, piece_of(0), [], [])
        self.rest_given(move.left, FORM, piece_of(2), [], ["v", "v"])
        self.rest_given(move.left, FORM, piece_of(0), ["a", "b"], [])
        self.rest_given(move.left, FORM, piece_of(1), ["a", "b"], ["a"])
        self.rest_given(move.left, FORM, piece_of(3), ["", "b"], ["", "b", "v"])

    def test_an_earlier_rest_where_there_is_one_row(self):
        for table in ("main", "pair"):
            self.rest_given(Put(table, "new", ("whole",), 9).left, FORM, piece_of(2), [0], [0])
            self.rest_given(Put(table, "new", ("whole",), 9).left, FORM, piece_of(2), [9], [9])

    def test_the_right_rest_is_none(self):
        for table in TABLES:
            move = Put(table, "new", ("whole",), 9)
            for piece in pieces():
                came = mapped(piece, table, lambda row: put_into(row, 1))
                self.fresh_rest(move.right, move.after(FORM), came, None)

    def test_values_of_other_rows_are_written(self):
        move = Put("lots", "new", ("whole",), 9)
        came = mapped(piece_of(2), "lots", lambda row: put_into(row, row["o"]))
        self.goes_back(move, FORM, came, None, piece_of(2), [30, 31])

    def test_what_it_keeps(self):
        for kind, value in PUT_KINDS:
            self.keeps(Put("main", "new", kind, value), True, False)

    def test_keys_stay(self):
        self.leaves_keys(Put("main", "new", ("whole",), 9))

    def test_words(self):
        for kind, value in PUT_KINDS:
            self.words_are(Put("lots", "new", kind, value), ("put", "lots", "new", kind, value))

    def test_words_of_moves_that_fit_no_form(self):
        for thing in ODD_THINGS:
            self.words_are(Put(thing, "a", ("key",), 9), ("put", thing, "a", ("key",), 9))
            self.words_are(Put("a", thing, ("whole",), 9), ("put", "a", thing, ("whole",), 9))
            self.words_are(Put("a", "b", thing, 9), ("put", "a", "b", thing, 9))
            self.words_are(Put("a", "b", ("whole",), thing), ("put", "a", "b", ("whole",), thing))


class TestCapForms(MoveCase):
    def test_whole_to_upto(self):
        for table in TABLES:
            for top in (0, 1, -1, 5, LONG, -LONG):
                self.leads(Cap(table, "n", top), FORM, other_columns(FORM, table, n=("upto", top)))

    def test_a_table_of_one_column(self):
        for table in TABLES:
            self.leads(Cap(table, "a", 3), small_form(table, a=("whole",)), small_form(table, a=("upto", 3)))

    def test_a_table_that_is_not_there(self):
        for table in ODD_TABLES:
            with self.subTest(table=table):
                self.no_old(Cap(table, "n", 5), FORM)
                self.no_new(Cap(table, "u", 5), FORM)

    def test_a_column_that_is_not_there(self):
        for column in ODD_NAMES + ["new", "main"]:
            with self.subTest(column=column):
                self.no_old(Cap("main", column, 5), FORM)
                self.no_new(Cap("main", column, 5), FORM)

    def test_the_column_of_another_table_alone(self):
        for table in TABLES:
            self.no_old(Cap(table, "n", 5), other_columns(FORM, table, n=None))
            self.no_new(Cap(table, "u", 5), other_columns(FORM, table, u=None))

    def test_old_of_another_kind(self):
        for kind in KINDS:
            if kind != ("whole",):
                self.no_old(Cap("few", "n", 5), other_columns(FORM, "few", n=kind))

    def test_new_of_another_kind(self):
        for kind in KINDS:
            if kind != ("upto", 5):
                self.no_new(Cap("few", "n", 5), other_columns(FORM, "few", n=kind))

    def test_new_with_another_top(self):
        for top, other in ((5, 4), (5, 6), (0, 1), (-1, 1), (LONG, LONG + 1)):
            self.no_new(Cap("lots", "n", top), other_columns(FORM, "lots", n=("upto", other)))

    def test_the_top_is_no_whole_number(self):
        for top in ODD_NUMBERS:
            with self.subTest(top=top):
                self.no_old(Cap("main", "n", top), FORM)
                for kind in (("upto", 1), ("upto", 0), ("upto", 5), ("whole",)):
                    self.no_new(Cap("main", "n", top), other_columns(FORM, "main", n=kind))


class TestCapPieces(MoveCase):
    def test_at_above_and_below_the_top(self):
        numbers = [5, 6, 4, -7, 0, LONG, -LONG, 6, 5]
        capped = [5, 5, 4, -7, 0, 5, -LONG, 5, 5]
        above = [None, 6, None, None, None, LONG, None, 6, None]
        for table in ("lots", "few"):
            old = with_values(piece_of(3, 3), table, "n", numbers)
            new = with_values(piece_of(3, 3), table, "n", capped)
            self.goes(Cap(table, "n", 5), FORM, old, None, new, above)

    def test_one_row(self):
        for table in TABLES:
            for top in (0, 5, -5):
                for number, capped, above in ((top, top, None), (top + 1, top, top + 1), (top - 1, top - 1, None)):
                    old = with_values(piece_of(1), table, "n", [number])
                    new = with_values(piece_of(1), table, "n", [capped])
                    self.goes(Cap(table, "n", top), FORM, old, None, new, [above])

    def test_no_row(self):
        self.goes(Cap("lots", "n", 5), FORM, piece_of(0), None, piece_of(0), [])

    def test_nought_above_the_top(self):
        for table in TABLES:
            move = Cap(table, "n", -1)
            old = with_values(piece_of(1), table, "n", [0])
            new = with_values(piece_of(1), table, "n", [-1])
            self.goes(move, FORM, old, None, new, [0])
            self.fresh_rest(move.right, move.after(FORM), new, [None])

    def test_numbers_beside_it_stay(self):
        form = other_columns(FORM, "pair", a=("whole",), z=("whole",))
        old = mapped(piece_of(1), "pair", lambda row: dict(row, a=99, n=99, z=99))
        new = mapped(piece_of(1), "pair", lambda row: dict(row, a=99, n=5, z=99))
        self.goes(Cap("pair", "n", 5), form, old, None, new, [99])

    def test_a_fresh_right_rest(self):
        for table in TABLES:
            move = Cap(table, "n", 5)
            for piece in pieces():
                new = mapped(piece, table, lambda row: dict(row, n=min(row["n"], 5)))
                nothing = [None for row in piece[table]]
                self.fresh_rest(move.right, move.after(FORM), new, nothing)
                self.goes_back(move, FORM, new, nothing, new, None)

    def test_an_earlier_right_rest(self):
        for table in ("lots", "few"):
            move = Cap(table, "n", 5)
            for numbers, earlier, right in (
                ([5, 5, 5], [7, None, 8], [7, None, 8]),
                ([5, 4, 5], [7, 8, 9], [7, None, 9]),
                ([4, -6, 0], [7, 8, 9], [None, None, None]),
                ([5, 5, 5], [7], [7, None, None]),
                ([4, 5, 5], [7, 8], [None, 8, None]),
                ([5], [7, 8, 9], [7]),
                ([5, 5], [None, 8, 9, 10], [None, 8]),
                ([5, 3], [None], [None, None]),
            ):
                with self.subTest(table=table, numbers=numbers, earlier=earlier):
                    new = with_values(piece_of(1), table, "n", numbers)
                    self.rest_given(move.right, move.after(FORM), new, earlier, right)
                    raised = [number if above is None else above for number, above in zip(numbers, right)]
                    old = with_values(piece_of(1), table, "n", raised)
                    self.goes(move, FORM, old, None, new, right)

    def test_an_earlier_rest_of_no_row_and_for_no_row(self):
        move = Cap("lots", "n", 5)
        new = move.after(FORM)
        self.rest_given(move.right, new, piece_of(0), [], [])
        self.rest_given(move.right, new, piece_of(0), [7, None], [])
        self.rest_given(move.right, new, with_values(piece_of(1), "lots", "n", [5, 5]), [], [None, None])

    def test_an_earlier_rest_where_there_is_one_row(self):
        for table in ("main", "pair"):
            move = Cap(table, "n", 0)
            for number, earlier, right in ((0, 1, 1), (0, None, None), (-1, 1, None), (0, LONG, LONG)):
                new = with_values(piece_of(1), table, "n", [number])
                self.rest_given(move.right, move.after(FORM), new, [earlier], [right])

    def test_the_left_rest_is_none(self):
        for table in TABLES:
            for piece in pieces():
                self.fresh_rest(Cap(table, "n", 5).left, FORM, piece, None)

    def test_what_it_keeps(self):
        for top in (0, 5, -5):
            self.keeps(Cap("main", "n", top), False, True)

    def test_keys_stay(self):
        self.leaves_keys(Cap("main", "n", 5))

    def test_words(self):
        for top in (0, -3, LONG):
            self.words_are(Cap("main", "n", top), ("cap", "main", "n", top))
        for thing in ODD_THINGS:
            self.words_are(Cap(thing, "n", 5), ("cap", thing, "n", 5))
            self.words_are(Cap("main", thing, 5), ("cap", "main", thing, 5))
            self.words_are(Cap("main", "n", thing), ("cap", "main", "n", thing))


def renamed(row, column, name):
    row[name] = row.pop(column)
    return row


class TestRenameForms(MoveCase):
    def test_columns_of_all_kinds(self):
        for table in TABLES:
            for column, kind in COLUMNS.items():
                new = other_columns(FORM, table, **{column: None, "new": kind})
                self.leads(Rename(table, column, "new"), FORM, new)

    def test_the_columns_are_sorted_again(self):
        form = small_form("lots", b=("word",), d=("whole",))
        for name in ("a", "c", "e", "zzzzzzzz"):
            self.leads(Rename("lots", "b", name), form, small_form("lots", **{name: ("word",), "d": ("whole",)}))

    def test_a_name_that_other_tables_have(self):
        for table in TABLES:
            old = other_columns(FORM, table, n=None)
            self.leads(Rename(table, "w", "n"), old, other_columns(FORM, table, w=None, n=("word",)))
            self.leads(Rename(table, "w", table), FORM, other_columns(FORM, table, **{"w": None, table: ("word",)}))

    def test_a_table_that_is_not_there(self):
        for table in ODD_TABLES:
            with self.subTest(table=table):
                self.no_old(Rename(table, "n", "new"), FORM)
                self.no_new(Rename(table, "new", "n"), FORM)

    def test_old_without_the_column(self):
        for table in TABLES:
            for column in ODD_NAMES + ["other"]:
                with self.subTest(table=table, column=column):
                    self.no_old(Rename(table, column, "new"), FORM)
            self.no_old(Rename(table, "n", "new"), other_columns(FORM, table, n=None))

    def test_old_with_a_column_called_so(self):
        for column in COLUMNS:
            for name in COLUMNS:
                self.no_old(Rename("few", column, name), FORM)

    def test_old_to_what_is_no_name(self):
        for name in ODD_NAMES:
            with self.subTest(name=name):
                self.no_old(Rename("lots", "n", name), FORM)

    def test_new_without_the_name(self):
        for table in TABLES:
            for name in ODD_NAMES + ["other"]:
                with self.subTest(table=table, name=name):
                    self.no_new(Rename(table, "new", name), FORM)
            self.no_new(Rename(table, "new", "n"), other_columns(FORM, table, n=None))

    def test_new_with_a_column_called_as_the_old_one(self):
        for column in COLUMNS:
            for name in COLUMNS:
                self.no_new(Rename("few", column, name), FORM)

    def test_new_where_the_old_one_is_no_name(self):
        for column in ODD_NAMES:
            with self.subTest(column=column):
                self.no_new(Rename("pair", column, "n"), FORM)

    def test_not_to_its_own_name(self):
        for name in ("n", "new"):
            self.no_old(Rename("main", name, name), FORM)
            self.no_new(Rename("main", name, name), FORM)

    def test_the_other_way_is_the_back(self):
        new = Rename("main", "n", "new").after(FORM)
        self.leads(Rename("main", "new", "n"), new, FORM)


class TestRenamePieces(MoveCase):
    def test_values_stay(self):
        for table in TABLES:
            for column in COLUMNS:
                move = Rename(table, column, "new")
                for piece in pieces():
                    came = mapped(piece, table, lambda row: renamed(row, column, "new"))
                    self.has_no_rests(move, FORM, piece, came)

    def test_what_it_keeps_its_keys_and_words(self):
        move = Rename("main", "n", "new")
        self.keeps(move, True, True)
        self.leaves_keys(move)
        self.words_are(move, ("rename", "main", "n", "new"))
        for thing in ODD_THINGS:
            self.words_are(Rename(thing, "n", "new"), ("rename", thing, "n", "new"))
            self.words_are(Rename("main", thing, "new"), ("rename", "main", thing, "new"))
            self.words_are(Rename("main", "n", thing), ("rename", "main", "n", thing))


if __name__ == "__main__":
    unittest.main()
