"""Points 41, 42, and 44 and 49 as far as they speak of them: Rows and Cleave."""

import unittest
from copy import deepcopy

from halfmoved.errors import NoMove
from halfmoved.forms import form_of, with_table, without_table
from halfmoved.moves import Move
from halfmoved.sides import Cleave, Rows
from test_move_case import COLUMNS, KINDS, LONG, SIZE, TABLES, MoveCase, other_columns, piece_of, pieces, small_form, whole_form

FORM = whole_form()
PLAIN = [("whole",), ("below", 1), ("below", 7), ("upto", -3), ("upto", 0), ("word",), ("without", "/"), ("without", " ")]
NO_PLAIN = [
    ("key",), ("list", ("whole",)), ("list", ("word",)), ("some", ("below", 3)), ("once", ("whole",)), ("once", ("word",)),
]
# Sorted ahead of all side tables of the form, between them, and behind them.
SIDES = ["a", "head", "lott", "ma", "pairs", "zzzzzzzz"]
NO_NAMES = ["", "A", "Side", "side ", " side", "s1", "a b", "a_b", "a-b", "abcdefghi", " ", "-", ";"]


def with_side(form, side, sort, **columns):
    return with_table(form, side, sort, columns)


def cleft(form, side, *columns):
    # The form with these columns of the head in a twin table.
    taken = {column: COLUMNS[column] for column in columns}
    return with_table(other_columns(form, "main", **dict.fromkeys(columns)), side, "twin", taken)


NEW_L = with_side(other_columns(FORM, "main", l=None), "side", "many", l=("word",))
NEW_S = with_side(other_columns(FORM, "main", s=None), "side", "some", s=("below", 3))


class TestInterface(unittest.TestCase):
    def test_bases(self):
        self.assertEqual(Rows.__bases__, (Move,))
        self.assertEqual(Cleave.__bases__, (Move,))

    def test_arguments_by_name(self):
        self.assertEqual(Rows(column="l", side="side").words(), ("rows", "l", "side"))
        self.assertEqual(Cleave(side="side", columns=["n"]).words(), ("cleave", "side", ("n",)))


class TestRowsForms(MoveCase):
    def test_a_list_becomes_a_many_table(self):
        self.leads(Rows("l", "side"), FORM, NEW_L)

    def test_a_some_becomes_a_some_table(self):
        self.leads(Rows("s", "side"), FORM, NEW_S)

    def test_the_new_table_stands_in_its_place(self):
        for side in SIDES:
            new = Rows("l", side).after(FORM)
            names = [entry[0] for entry in new[1]]
            self.assertEqual(names, ["main"] + sorted(["few", "lots", "pair", side]))
            self.leads(Rows("l", side), FORM, with_side(other_columns(FORM, "main", l=None), side, "many", l=("word",)))

    def test_every_plain_kind_within(self):
        for kind in PLAIN:
            for sort, tables in (("list", "many"), ("some", "some")):
                old = small_form("main", t=(sort, kind), w=("word",))
                self.leads(Rows("t", "side"), old, with_side(small_form("main", w=("word",)), "side", tables, t=kind))

    def test_a_head_of_one_column_and_no_other_table(self):
        old = form_of(1, [("h", "head", {"t": ("list", ("whole",))})])
        new = form_of(1, [("h", "head", {}), ("s", "many", {"t": ("whole",)})])
        self.leads(Rows("t", "s"), old, new)

    def test_the_side_table_by_the_name_of_a_column(self):
        for side in ("l", "n", "s"):
            new = with_side(other_columns(FORM, "main", l=None), side, "many", l=("word",))
            self.leads(Rows("l", side), FORM, new)

    def test_other_tables_may_have_a_column_of_that_name(self):
        old = form_of(SIZE, [("main", "head", {"t": ("some", ("word",))}), ("x", "many", {"t": ("key",)}), ("y", "twin", {"t": ("word",)})])
        new = form_of(SIZE, [
            ("main", "head", {}), ("x", "many", {"t": ("key",)}), ("xx", "some", {"t": ("word",)}), ("y", "twin", {"t": ("word",)}),
        ])
        self.leads(Rows("t", "xx"), old, new)

    def test_old_without_the_column_in_the_head(self):
        for column in NO_NAMES + ["none", "m", "ll", "main", "side"]:
            with self.subTest(column=column):
                self.no_old(Rows(column, "side"), FORM)
        for column in ("l", "s"):
            # Other tables have it.
            self.no_old(Rows(column, "side"), other_columns(FORM, "main", **{column: None}))
        self.no_old(Rows("l", "side"), small_form("lots", l=("list", ("word",))))

    def test_old_neither_list_nor_some(self):
        for kind in KINDS:
            if kind[0] not in ("list", "some"):
                with self.subTest(kind=kind):
                    self.no_old(Rows("t", "side"), other_columns(FORM, "main", t=kind))

    def test_old_where_the_side_is_no_name(self):
        for side in NO_NAMES:
            with self.subTest(side=side):
                self.no_old(Rows("l", side), FORM)
                self.no_old(Rows("s", side), FORM)

    def test_old_where_the_side_is_a_tables(self):
        for side in TABLES:
            self.no_old(Rows("l", side), FORM)
            self.no_old(Rows("s", side), FORM)
        self.no_old(Rows("l", "side"), with_side(FORM, "side", "many", l=("word",)))

    def test_new_where_the_side_is_no_tables(self):
        for side in NO_NAMES + ["none", "sid", "sides", "l"]:
            with self.subTest(side=side):
                self.no_new(Rows("l", side), NEW_L)
        self.no_new(Rows("l", "side"), without_table(NEW_L, "side"))

    def test_new_of_another_sort(self):
        self.no_new(Rows("l", "side"), with_side(other_columns(FORM, "main", l=None), "side", "twin", l=("word",)))
        # The head is no side table, whatever it has.
        self.no_new(Rows("l", "main"), small_form("main", l=("word",)))
        self.no_new(Rows("l", "main"), form_of(9, [("main", "head", {"l": ("word",)})]))

    def test_new_with_other_columns(self):
        for sort in ("many", "some"):
            less = other_columns(FORM, "main", l=None)
            self.no_new(Rows("l", "side"), with_side(less, "side", sort))
            self.no_new(Rows("l", "side"), with_side(less, "side", sort, m=("word",)))
            self.no_new(Rows("l", "side"), with_side(less, "side", sort, l=("word",), m=("word",)))
            self.no_new(Rows("l", "side"), with_side(less, "side", sort, a=("word",), l=("word",)))
        self.no_new(Rows("n", "lots"), other_columns(FORM, "main", n=None))

    def test_new_of_no_plain_kind(self):
        for kind in NO_PLAIN:
            for sort in ("many", "some"):
                with self.subTest(kind=kind, sort=sort):
                    self.no_new(Rows("l", "side"), with_side(other_columns(FORM, "main", l=None), "side", sort, l=kind))

    def test_new_where_the_head_has_such_a_column(self):
        for kind in (("word",), ("list", ("word",)), ("key",)):
            self.no_new(Rows("l", "side"), other_columns(NEW_L, "main", l=kind))
            self.no_new(Rows("s", "side"), other_columns(NEW_S, "main", s=kind))

    def test_what_is_refused_changes_nothing(self):
        move = Rows("l", "side")
        self.no_old(move, NEW_L)
        self.no_new(move, FORM)
        self.leads(move, FORM, NEW_L)


class TestRowsPieces(MoveCase):
    def rows_made(self, piece, column, side):
        came = deepcopy(piece)
        came[side] = [{column: thing} for thing in came["main"][0].pop(column)]
        return came

    def test_pieces_of_several_tables(self):
        for side in SIDES:
            for column in ("l", "s"):
                for piece in pieces():
                    self.has_no_rests(Rows(column, side), FORM, piece, self.rows_made(piece, column, side))

    def test_the_thing_at_each_place(self):
        old = form_of(9, [("main", "head", {"n": ("whole",), "t": ("list", ("whole",))}), ("x", "many", {"t": ("word",)})])
        self.has_no_rests(
            Rows("t", "y"), old, {"main": [{"n": 1, "t": (5, -5, LONG)}], "x": [{"t": "a"}, {"t": "b"}]},
            {"main": [{"n": 1}], "x": [{"t": "a"}, {"t": "b"}], "y": [{"t": 5}, {"t": -5}, {"t": LONG}]},
        )

    def test_a_list_of_no_thing(self):
        old = form_of(9, [("main", "head", {"t": ("list", ("word",))})])
        self.has_no_rests(Rows("t", "y"), old, {"main": [{"t": ()}]}, {"main": [{}], "y": []})

    def test_one_thing_and_equal_things(self):
        for sort in ("list", "some"):
            old = form_of(9, [("main", "head", {"t": (sort, ("word",))})])
            for things in (("",), ("a",), ("", ""), ("a", "a", "a"), ("b", "a", "b"), ("x y", "/", ",")):
                came = {"main": [{}], "y": [{"t": thing} for thing in things]}
                self.has_no_rests(Rows("t", "y"), old, {"main": [{"t": things}]}, came)

    def test_sixty_things(self):
        old = form_of(9, [("main", "head", {"t": ("some", ("whole",))})])
        things = tuple(range(60, 0, -1))
        self.has_no_rests(Rows("t", "y"), old, {"main": [{"t": things}]}, {"main": [{}], "y": [{"t": thing} for thing in things]})

    def test_an_earlier_rest_is_none(self):
        piece = piece_of(2)
        came = self.rows_made(piece, "l", "side")
        self.rest_given(Rows("l", "side").left, FORM, piece, None, None)
        self.rest_given(Rows("l", "side").right, NEW_L, came, None, None)

    def test_keys_and_what_it_keeps(self):
        self.leaves_keys(Rows("l", "side"))
        self.keeps(Rows("l", "side"), True, True)

    def test_words(self):
        self.words_are(Rows("l", "side"), ("rows", "l", "side"))
        self.words_are(Rows("side", "l"), ("rows", "side", "l"))
        self.words_are(Rows("A", ""), ("rows", "A", ""))


class TestCleaveForms(MoveCase):
    def test_columns_go_into_a_twin_table(self):
        for columns in (["n"], ["n", "w"], ["b", "k", "o"], ["b", "s", "u", "x"], sorted(COLUMNS)):
            self.leads(Cleave("side", columns), FORM, cleft(FORM, "side", *columns))

    def test_columns_in_any_order(self):
        for columns in (["w", "n", "k"], ["n", "w", "k"], ["k", "w", "n"]):
            self.leads(Cleave("side", columns), FORM, cleft(FORM, "side", "k", "n", "w"))

    def test_no_columns(self):
        for side in SIDES:
            self.leads(Cleave(side, []), FORM, with_table(FORM, side, "twin", {}))
        self.leads(Cleave("s", []), form_of(1, [("h", "head", {})]), form_of(1, [("h", "head", {}), ("s", "twin", {})]))

    def test_every_kind(self):
        for column in COLUMNS:
            self.leads(Cleave("side", [column]), FORM, cleft(FORM, "side", column))

    def test_the_new_table_stands_in_its_place(self):
        for side in SIDES:
            new = Cleave(side, ["n", "o"]).after(FORM)
            self.assertEqual([entry[0] for entry in new[1]], ["main"] + sorted(["few", "lots", "pair", side]))
            self.leads(Cleave(side, ["o", "n"]), FORM, cleft(FORM, side, "n", "o"))

    def test_old_where_the_head_lacks_a_column(self):
        for column in NO_NAMES + ["none", "nn", "main", "side"]:
            with self.subTest(column=column):
                self.no_old(Cleave("side", [column]), FORM)
                self.no_old(Cleave("side", ["b", column]), FORM)
                self.no_old(Cleave("side", [column, "x"]), FORM)
        # Other tables have it.
        self.no_old(Cleave("side", ["n"]), other_columns(FORM, "main", n=None))
        self.no_old(Cleave("side", ["n"]), small_form("pair", n=("whole",)))

    def test_told_twice(self):
        for columns in (["n", "n"], ["n", "b", "n"], ["n", "b", "b"], ["x", "x", "x"]):
            with self.subTest(columns=columns):
                self.no_old(Cleave("side", columns), FORM)
                self.no_new(Cleave("side", columns), cleft(FORM, "side", *sorted(set(columns))))

    def test_old_where_the_side_is_no_name(self):
        for side in NO_NAMES:
            with self.subTest(side=side):
                self.no_old(Cleave(side, ["n"]), FORM)
                self.no_old(Cleave(side, []), FORM)

    def test_old_where_the_side_is_a_tables(self):
        for side in TABLES:
            self.no_old(Cleave(side, ["n"]), FORM)
            self.no_old(Cleave(side, []), FORM)

    def test_new_where_the_side_is_no_tables(self):
        for side in NO_NAMES + ["none", "sid", "sides", "n"]:
            with self.subTest(side=side):
                self.no_new(Cleave(side, ["n"]), cleft(FORM, "side", "n"))
                self.no_new(Cleave(side, []), cleft(FORM, "side"))

    def test_new_of_another_sort(self):
        for sort in ("many", "some"):
            self.no_new(Cleave("side", ["n"]), with_side(other_columns(FORM, "main", n=None), "side", sort, n=("whole",)))
            self.no_new(Cleave("side", []), with_side(FORM, "side", sort))
        self.no_new(Cleave("main", []), small_form("lots", n=("whole",)))
        self.no_new(Cleave("main", ["n"]), small_form("main", n=("whole",)))

    def test_new_with_other_columns(self):
        for columns in ([], ["n"], ["w"], ["n", "w", "x"], ["b", "n", "w"], ["n", "x"], ["none", "n", "w"], ["N", "w"]):
            with self.subTest(columns=columns):
                self.no_new(Cleave("side", columns), cleft(FORM, "side", "n", "w"))
        self.no_new(Cleave("side", ["n"]), cleft(FORM, "side"))

    def test_new_where_the_head_has_one_of_them(self):
        for column in ("n", "w"):
            for kind in (COLUMNS[column], ("key",)):
                new = other_columns(cleft(FORM, "side", "n", "w"), "main", **{column: kind})
                self.no_new(Cleave("side", ["n", "w"]), new)

    def test_a_twin_table_that_was_there(self):
        old = form_of(9, [("main", "head", {"a": ("word",)}), ("t", "twin", {"b": ("key",)})])
        whole = form_of(9, [("main", "head", {"a": ("word",), "b": ("key",)})])
        self.leads(Cleave("t", ["b"]), whole, old)

    def test_what_is_refused_changes_nothing(self):
        move = Cleave("side", ["n"])
        self.no_old(move, cleft(FORM, "side", "n"))
        self.no_new(move, FORM)
        self.leads(move, FORM, cleft(FORM, "side", "n"))


class TestCleavePieces(MoveCase):
    def parted(self, piece, side, columns):
        came = deepcopy(piece)
        came[side] = [{column: came["main"][0].pop(column) for column in columns}]
        return came

    def test_pieces_of_several_tables(self):
        for side in SIDES:
            for columns in ([], ["n"], ["w", "b", "k"], list(COLUMNS)):
                for piece in pieces():
                    self.has_no_rests(Cleave(side, columns), FORM, piece, self.parted(piece, side, columns))

    def test_a_row_without_columns(self):
        old = form_of(9, [("main", "head", {})])
        self.has_no_rests(Cleave("s", []), old, {"main": [{}]}, {"main": [{}], "s": [{}]})

    def test_all_columns(self):
        old = form_of(9, [("main", "head", {"a": ("word",), "b": ("key",)}), ("x", "many", {"a": ("word",)})])
        self.has_no_rests(
            Cleave("s", ["b", "a"]), old, {"main": [{"a": "", "b": None}], "x": [{"a": "q"}]},
            {"main": [{}], "s": [{"a": "", "b": None}], "x": [{"a": "q"}]},
        )

    def test_keys_and_what_it_keeps(self):
        self.leaves_keys(Cleave("side", ["n"]))
        self.keeps(Cleave("side", ["n"]), True, True)
        self.keeps(Cleave("side", []), True, True)

    def test_words(self):
        self.words_are(Cleave("side", []), ("cleave", "side", ()))
        self.words_are(Cleave("side", ["n"]), ("cleave", "side", ("n",)))
        self.words_are(Cleave("side", ["n", "b", "a"]), ("cleave", "side", ("a", "b", "n")))
        self.words_are(Cleave("side", ["aa", "b", "a", "ab"]), ("cleave", "side", ("a", "aa", "ab", "b")))

    def test_changes_to_the_list_handed_in(self):
        columns = ["n", "b"]
        move = Cleave("side", columns)
        self.assertEqual(columns, ["n", "b"])
        columns.append("w")
        columns.reverse()
        self.words_are(move, ("cleave", "side", ("b", "n")))
        self.leads(move, FORM, cleft(FORM, "side", "b", "n"))
        piece = piece_of(1)
        self.has_no_rests(move, FORM, piece, self.parted(piece, "side", ["b", "n"]))

    def test_the_list_handed_in_stays(self):
        columns = ["n", "b"]
        move = Cleave("side", columns)
        new = move.after(FORM)
        move.back(new, *move.forth(FORM, piece_of(1), None))
        move.words()
        with self.assertRaises(NoMove):
            move.after(new)
        self.assertEqual(columns, ["n", "b"])


if __name__ == "__main__":
    unittest.main()
