"""Points 12 to 16: forms, how they are made, told about and changed; rows, pieces and copies."""

import unittest

from halfmoved.errors import NoForm, NoTable
from halfmoved.forms import (
    columns_of, copied, form_of, head_of, is_piece, is_row, sort_of, tables_of, with_columns, with_table, without_table,
)

HEAD_COLUMNS = {
    "at": ("key",), "bound": ("upto", 5), "flag": ("below", 2), "list": ("list", ("word",)), "no": ("once", ("whole",)),
    "path": ("some", ("without", "/")), "text": ("word",), "weight": ("whole",), "word": ("without", " "),
}
TABLES = [
    ("main", "head", HEAD_COLUMNS),
    ("zoo", "many", {"n": ("whole",), "to": ("key",)}),
    ("bare", "many", {}),
    ("alike", "twin", {"tag": ("once", ("word",))}),
    ("lines", "some", {"line": ("word",)}),
]
FORM = form_of(9, TABLES)

ODD_THINGS = [
    None, True, False, 0, 1, -1, 1.0, "", (), [], {}, (1,), [1], {"a": 1}, ("a",), ["a"], [[]], ([],), {"a": [None]},
    ((), {}), [("head",)], ["head"], ("head",),
]


def head_row(**changes):
    row = {
        "at": None, "bound": 5, "flag": 1, "list": (), "no": 3, "path": ("usr",), "text": "a b", "weight": -2, "word": "",
    }
    row.update(changes)
    return row


def whole_piece(**changes):
    piece = {
        "main": [head_row()],
        "alike": [{"tag": "x"}],
        "bare": [{}, {}],
        "lines": [{"line": "one"}, {"line": ""}],
        "zoo": [{"n": 1, "to": None}, {"n": 2, "to": 8}, {"n": 1, "to": 0}],
    }
    piece.update(changes)
    return piece


def tables_with(spot, part, thing):
    tables = [list(table) for table in TABLES]
    tables[spot][part] = thing
    return [tuple(table) for table in tables]


class FormsCase(unittest.TestCase):
    def no_form(self, ask, *words):
        self.assertRaises(NoForm, ask, *words)

    def no_table(self, name, ask, *words):
        with self.assertRaises(NoTable) as caught:
            ask(*words)
        error = caught.exception
        self.assertEqual((error.table, error.key, error.place), (name, None, None))


class TestMade(FormsCase):
    def test_the_least_form(self):
        self.assertEqual(form_of(1, [("a", "head", {})]), (1, (("a", "head", ()),)))

    def test_the_tuple_of_a_form(self):
        self.assertEqual(form_of(9, [
            ("zed", "head", {"b": ("word",), "a": ("whole",), "ab": ("key",)}),
            ("more", "some", {"y": ("list", ("below", 3)), "x": ("once", ("without", "q"))}),
            ("and", "twin", {}),
            ("mo", "many", {"b": ("upto", -1)}),
        ]), (9, (
            ("zed", "head", (("a", ("whole",)), ("ab", ("key",)), ("b", ("word",)))),
            ("and", "twin", ()),
            ("mo", "many", (("b", ("upto", -1)),)),
            ("more", "some", (("x", ("once", ("without", "q"))), ("y", ("list", ("below", 3))))),
        )))

    def test_all_of_it_is_tuples(self):
        self.assertIsInstance(FORM, tuple)
        self.assertIsInstance(FORM[1], tuple)
        for table in FORM[1]:
            self.assertIsInstance(table, tuple)
            self.assertIsInstance(table[2], tuple)
            for column in table[2]:
                self.assertIsInstance(column, tuple)

    def test_equal_forms_made_in_unlike_ways(self):
        backwards = [TABLES[0]] + list(reversed(TABLES[1:]))
        turned = [(name, sort, dict(reversed(list(columns.items())))) for name, sort, columns in backwards]
        self.assertEqual(form_of(9, turned), FORM)
        self.assertEqual(hash(form_of(9, turned)), hash(FORM))
        grown = form_of(9, [("main", "head", {})])
        for name, sort, columns in turned[1:]:
            grown = with_table(grown, name, sort, columns)
        self.assertEqual(with_columns(grown, "main", HEAD_COLUMNS), FORM)

    def test_unlike_forms(self):
        self.assertNotEqual(form_of(8, TABLES), FORM)
        self.assertNotEqual(form_of(9, TABLES[:-1]), FORM)
        self.assertNotEqual(form_of(9, tables_with(1, 1, "some")), FORM)
        self.assertNotEqual(form_of(9, tables_with(0, 0, "mainly")), FORM)
        self.assertNotEqual(form_of(9, tables_with(1, 2, {"n": ("whole",)})), FORM)
        self.assertNotEqual(form_of(9, tables_with(1, 2, {"n": ("word",), "to": ("key",)})), FORM)

    def test_names_at_their_edges(self):
        form = form_of(1, [("abcdefgh", "head", {"zzzzzzzz": ("word",), "z": ("word",)}), ("a", "many", {})])
        self.assertEqual(tables_of(form), ["abcdefgh", "a"])

    def test_one_column_name_in_several_tables(self):
        form = form_of(1, [("main", "head", {"a": ("word",)}), ("side", "many", {"a": ("whole",), "main": ("key",)})])
        self.assertEqual(columns_of(form, "main"), {"a": ("word",)})
        self.assertEqual(columns_of(form, "side"), {"a": ("whole",), "main": ("key",)})

    def test_great_sizes(self):
        for size in (1, 2, 10 ** 12):
            self.assertEqual(form_of(size, TABLES)[0], size)


class TestMadeRefused(FormsCase):
    def test_size(self):
        for thing in [0, -1, -10 ** 300] + [thing for thing in ODD_THINGS if thing is True or thing != 1] + ["9", 9.0]:
            with self.subTest(thing=thing):
                self.no_form(form_of, thing, TABLES)

    def test_a_truth_is_no_size(self):
        self.no_form(form_of, True, [("main", "head", {})])

    def test_no_tables(self):
        self.no_form(form_of, 9, [])

    def test_the_first_sort_is_not_head(self):
        for sort in ["twin", "many", "some", "Head", "heads", ""] + ODD_THINGS:
            with self.subTest(sort=sort):
                self.no_form(form_of, 9, tables_with(0, 1, sort))
                self.no_form(form_of, 9, [("main", sort, {})])

    def test_a_head_behind_the_first(self):
        for spot in range(1, len(TABLES)):
            with self.subTest(spot=spot):
                self.no_form(form_of, 9, tables_with(spot, 1, "head"))
        self.no_form(form_of, 9, [("side", "many", {}), ("main", "head", {})])

    def test_a_sort_that_is_none(self):
        for spot in range(len(TABLES)):
            for sort in ["none", "Many", "many ", "twins", "side", "whole"] + ODD_THINGS:
                with self.subTest(spot=spot, sort=sort):
                    self.no_form(form_of, 9, tables_with(spot, 1, sort))

    def test_a_table_name_that_is_none(self):
        for spot in range(len(TABLES)):
            for name in ["Main", "a1", "a b", "abcdefghi", "a_", "`", "{"] + ODD_THINGS:
                with self.subTest(spot=spot, name=name):
                    self.no_form(form_of, 9, tables_with(spot, 0, name))

    def test_a_table_name_twice(self):
        for spot in range(len(TABLES)):
            for other in range(len(TABLES)):
                if other != spot:
                    with self.subTest(spot=spot, other=other):
                        self.no_form(form_of, 9, tables_with(spot, 0, TABLES[other][0]))

    def test_a_name_that_is_none_stands_twice(self):
        for name in [[], {}, None, ""]:
            with self.subTest(name=name):
                self.no_form(form_of, 9, [("main", "head", {}), (name, "many", {}), (name, "many", {})])

    def test_a_column_name_that_is_none(self):
        names = ["", "A", "a1", "a b", "abcdefghi", "a_", None, True, 0, 1, (), ("a",), (None, ()), 1.5]
        for spot in range(len(TABLES)):
            for name in names:
                with self.subTest(spot=spot, name=name):
                    self.no_form(form_of, 9, tables_with(spot, 2, {name: ("whole",)}))
                    self.no_form(form_of, 9, tables_with(spot, 2, {"a": ("whole",), name: ("whole",), "z": ("word",)}))
                    self.no_form(form_of, 9, tables_with(spot, 2, {"a": ("whole",), "z": ("word",), name: ("whole",)}))

    def test_a_kind_that_is_none(self):
        kinds = ODD_THINGS + ["whole", ["whole"], ("below", 0), ("below", True), ("list", ("key",)), ("without", "ab"),
                              ("once", ("once", ("whole",))), ("whole", 1), ("some",)]
        for spot in range(len(TABLES)):
            for kind in kinds:
                with self.subTest(spot=spot, kind=kind):
                    self.no_form(form_of, 9, tables_with(spot, 2, {"a": kind}))
                    self.no_form(form_of, 9, tables_with(spot, 2, {"a": ("whole",), "b": kind, "c": ("key",)}))
                    self.no_form(form_of, 9, tables_with(spot, 2, {"a": ("whole",), "b": ("key",), "c": kind}))


class TestTold(FormsCase):
    def test_tables_in_the_order_of_the_form(self):
        self.assertEqual(tables_of(FORM), ["main", "alike", "bare", "lines", "zoo"])
        self.assertEqual(tables_of(form_of(1, [("z", "head", {}), ("b", "many", {}), ("a", "many", {})])), ["z", "a", "b"])

    def test_head(self):
        self.assertEqual(head_of(FORM), "main")
        self.assertEqual(head_of(form_of(1, [("z", "head", {}), ("b", "many", {}), ("a", "many", {})])), "z")

    def test_sorts(self):
        self.assertEqual([sort_of(FORM, table) for table in tables_of(FORM)], ["head", "twin", "many", "some", "many"])

    def test_columns(self):
        for name, sort, columns in TABLES:
            self.assertEqual(columns_of(FORM, name), columns)
            self.assertIsInstance(columns_of(FORM, name), dict)

    def test_a_table_that_is_not_there(self):
        for name in ["none", "mai", "mainly", "at", "head", "a", "zooo"]:
            self.no_table(name, sort_of, FORM, name)
            self.no_table(name, columns_of, FORM, name)

    def test_what_is_told_is_the_askers_own(self):
        before = repr(FORM)
        tables_of(FORM).append("more")
        tables_of(FORM).clear()
        columns_of(FORM, "main")["more"] = ("whole",)
        columns_of(FORM, "main").clear()
        self.assertEqual(repr(FORM), before)
        self.assertEqual(tables_of(FORM), ["main", "alike", "bare", "lines", "zoo"])
        self.assertEqual(columns_of(FORM, "main"), HEAD_COLUMNS)

    def test_changes_to_what_was_handed_in_change_nothing(self):
        columns = {"b": ("whole",), "a": ("word",)}
        tables = [("main", "head", columns), ("side", "many", {}), ("next", "twin", {})]
        form = form_of(3, tables)
        wider = with_columns(form, "side", columns)
        longer = with_table(form, "more", "some", columns)
        told = [repr(form), repr(wider), repr(longer)]
        columns["c"] = ("key",)
        columns["a"] = ("whole",)
        tables.pop()
        self.assertEqual([repr(form), repr(wider), repr(longer)], told)
        self.assertEqual(columns_of(wider, "side"), {"b": ("whole",), "a": ("word",)})

    def test_nothing_that_is_handed_in_is_changed(self):
        columns = {"b": ("whole",), "a": ("word",)}
        tables = [("main", "head", columns), ("side", "many", {}), ("next", "twin", {})]
        form = form_of(3, tables)
        with_columns(form, "side", columns)
        with_table(form, "more", "some", columns)
        without_table(form, "side")
        self.assertEqual(list(columns.items()), [("b", ("whole",)), ("a", ("word",))])
        self.assertEqual([table[0] for table in tables], ["main", "side", "next"])
        self.assertEqual(form, form_of(3, tables))


class TestWithColumns(FormsCase):
    def test_other_columns_in_the_place_of_all(self):
        for spot, (name, sort, columns) in enumerate(TABLES):
            for new in [{}, {"z": ("key",), "b": ("some", ("whole",)), "n": ("word",)}]:
                with self.subTest(name=name, new=new):
                    form = with_columns(FORM, name, new)
                    self.assertEqual(form, form_of(9, tables_with(spot, 2, new)))
                    self.assertEqual(columns_of(form, name), new)
                    self.assertEqual(sort_of(form, name), sort)
                    self.assertEqual(tables_of(form), tables_of(FORM))

    def test_its_own_columns(self):
        for table in tables_of(FORM):
            self.assertEqual(with_columns(FORM, table, columns_of(FORM, table)), FORM)

    def test_refused_columns(self):
        for table in tables_of(FORM):
            for columns in [{"A": ("whole",)}, {"a": ("whole",), 1: ("whole",)}, {"a": "whole"}, {"a": None}, {"a": []},
                            {"a": ("whole",), "b": ("below", 0)}, {None: ("whole",)}]:
                with self.subTest(table=table, columns=columns):
                    self.no_form(with_columns, FORM, table, columns)

    def test_a_table_that_is_not_there_goes_ahead(self):
        self.no_table("none", with_columns, FORM, "none", {})
        self.no_table("none", with_columns, FORM, "none", {"A": ("whole",)})
        self.no_table("none", with_columns, FORM, "none", {"a": None})
        self.no_table("at", with_columns, FORM, "at", {"a": ("whole",)})


class TestWithTable(FormsCase):
    def test_one_more_side_table(self):
        for name in ["a", "azure", "many", "z", "zzz"]:
            for sort in ["twin", "many", "some"]:
                with self.subTest(name=name, sort=sort):
                    form = with_table(FORM, name, sort, {"y": ("whole",), "x": ("key",)})
                    self.assertEqual(form, form_of(9, TABLES + [(name, sort, {"x": ("key",), "y": ("whole",)})]))
                    self.assertEqual(tables_of(form), ["main"] + sorted(tables_of(FORM)[1:] + [name]))
                    self.assertEqual(sort_of(form, name), sort)
                    self.assertEqual(without_table(form, name), FORM)

    def test_a_name_that_a_table_has(self):
        for table in tables_of(FORM):
            self.no_form(with_table, FORM, table, "many", {})
            self.no_form(with_table, FORM, table, sort_of(FORM, table), columns_of(FORM, table))

    def test_refused(self):
        for name in ["", "A", "abcdefghi", None, 1, [], {}, ()]:
            self.no_form(with_table, FORM, name, "many", {})
        for sort in ["head", "none", "", "Many", None, True, [], {}, ()]:
            self.no_form(with_table, FORM, "more", sort, {})
        for columns in [{"A": ("whole",)}, {1: ("whole",)}, {"a": "whole"}, {"a": ("whole",), "b": None}]:
            self.no_form(with_table, FORM, "more", "many", columns)


class TestWithoutTable(FormsCase):
    def test_without_a_side_table(self):
        for spot in range(1, len(TABLES)):
            name = TABLES[spot][0]
            form = without_table(FORM, name)
            self.assertEqual(form, form_of(9, TABLES[:spot] + TABLES[spot + 1:]))
            self.no_table(name, sort_of, form, name)

    def test_without_its_head(self):
        self.no_form(without_table, FORM, "main")
        self.no_form(without_table, form_of(1, [("a", "head", {})]), "a")
        self.no_form(without_table, form_of(1, [("a", "head", {}), ("b", "many", {})]), "a")

    def test_a_table_that_is_not_there(self):
        for name in ["none", "at", "head", "mai"]:
            self.no_table(name, without_table, FORM, name)
        gone = without_table(FORM, "zoo")
        self.no_table("zoo", without_table, gone, "zoo")


class TestRow(FormsCase):
    def rows(self, table, rows, told):
        for row in rows:
            with self.subTest(table=table, row=row):
                self.assertIs(is_row(FORM, table, row), told)

    def test_rows(self):
        self.rows("main", [
            head_row(), head_row(at=0), head_row(at=8), head_row(bound=-7), head_row(flag=0), head_row(list=("a", "")),
            head_row(no=-10 ** 299), head_row(path=("", "")), head_row(text=""), head_row(weight=0), head_row(word="/"),
            dict(reversed(list(head_row().items()))),
        ], True)
        self.rows("zoo", [{"n": 0, "to": None}, {"to": 8, "n": -1}], True)
        self.rows("alike", [{"tag": ""}], True)
        self.rows("bare", [{}], True)

    def test_a_value_that_does_not_fit(self):
        self.rows("main", [
            head_row(at=9), head_row(at=-1), head_row(at=True), head_row(bound=6), head_row(bound=None),
            head_row(flag=2), head_row(flag=-1), head_row(flag=True), head_row(list=[]), head_row(list=(1,)),
            head_row(no=None), head_row(no="3"), head_row(path=()), head_row(path=("a/b",)), head_row(path=["a"]),
            head_row(text=None), head_row(text=5), head_row(weight=False), head_row(weight="1"), head_row(word="a b"),
            head_row(word=("a",)),
        ], False)
        self.rows("zoo", [{"n": None, "to": None}, {"n": 1, "to": 9}, {"n": 1, "to": ()}], False)

    def test_a_column_that_lacks(self):
        for column in HEAD_COLUMNS:
            row = head_row()
            row.pop(column)
            self.rows("main", [row], False)
        self.rows("main", [{}], False)
        self.rows("zoo", [{"n": 1}, {"to": None}, {}], False)
        self.rows("alike", [{}], False)

    def test_a_column_too_many(self):
        for column in ["more", "", "A", 1, None, ("at",), True]:
            row = head_row()
            row[column] = 0
            self.rows("main", [row], False)
            self.rows("bare", [{column: None}], False)
            self.rows("zoo", [{"n": 1, "to": None, column: 1}], False)

    def test_a_column_in_the_place_of_another(self):
        self.rows("zoo", [{"n": 1, "too": None}, {"m": 1, "to": None}, {"n": 1, None: None}], False)

    def test_any_thing(self):
        for table in tables_of(FORM):
            self.rows(table, [thing for thing in ODD_THINGS if thing != {}] + [[head_row()], (head_row(),)], False)
            self.rows(table, [list(columns_of(FORM, table)) + ["at"], tuple(head_row().items())], False)

    def test_the_row_of_another_table(self):
        self.rows("zoo", [head_row(), {"tag": "x"}, {}], False)
        self.rows("main", [{"tag": "x"}], False)

    def test_a_table_that_is_not_there(self):
        for table in ["none", "at", "head", "mai"]:
            for row in ODD_THINGS + [head_row(), {"tag": "x"}]:
                with self.subTest(table=table, row=row):
                    self.assertIs(is_row(FORM, table, row), False)

    def test_the_size_of_the_form_counts(self):
        for size in (1, 2, 10 ** 12):
            form = form_of(size, [("main", "head", {"at": ("key",)})])
            self.assertIs(is_row(form, "main", {"at": size - 1}), True)
            self.assertIs(is_row(form, "main", {"at": size}), False)


class TestPiece(FormsCase):
    def pieces(self, pieces, told):
        for piece in pieces:
            with self.subTest(piece=piece):
                self.assertIs(is_piece(FORM, piece), told)

    def test_pieces(self):
        self.pieces([
            whole_piece(), whole_piece(bare=[]), whole_piece(zoo=[]), whole_piece(bare=[{}] * 60),
            whole_piece(lines=[{"line": "a"}]), whole_piece(zoo=[{"n": 1, "to": 5}]), whole_piece(bare=[], zoo=[]),
            dict(reversed(list(whole_piece().items()))),
        ], True)
        self.assertIs(is_piece(form_of(1, [("a", "head", {})]), {"a": [{}]}), True)

    def test_how_many_rows(self):
        tag = {"tag": "x"}
        self.pieces([
            whole_piece(main=[]), whole_piece(main=[head_row(), head_row()]), whole_piece(alike=[]),
            whole_piece(alike=[tag, tag]), whole_piece(alike=[tag, {"tag": "y"}]), whole_piece(lines=[]),
        ], False)

    def test_a_table_that_lacks(self):
        for table in tables_of(FORM):
            piece = whole_piece()
            piece.pop(table)
            self.pieces([piece], False)
        self.pieces([{}], False)

    def test_a_table_too_many(self):
        for table in ["none", "", 1, None, ("main",), True]:
            for rows in [[], [{}], None]:
                piece = whole_piece()
                piece[table] = rows
                self.pieces([piece], False)

    def test_a_table_in_the_place_of_another(self):
        piece = whole_piece()
        piece["zoos"] = piece.pop("zoo")
        self.pieces([piece], False)

    def test_rows_that_are_no_list(self):
        for table in tables_of(FORM):
            rows = whole_piece()[table]
            for thing in [tuple(rows), rows[0], {0: rows[0]}, None, 0, True, "", (), {}, "ab"]:
                self.pieces([whole_piece(**{table: thing})], False)

    def test_a_row_that_is_none(self):
        self.pieces([whole_piece(main=[head_row(at=9)]), whole_piece(main=[{}]), whole_piece(main=[None])], False)
        self.pieces([whole_piece(alike=[{"tag": 1}]), whole_piece(alike=[[("tag", "x")]])], False)
        self.pieces([whole_piece(bare=[{}, {}, {"a": 1}]), whole_piece(bare=[{}, []]), whole_piece(bare=[None])], False)
        good = {"n": 1, "to": None}
        for bad in [{"n": 1}, {"n": 1, "to": 9}, {"n": True, "to": 1}, {"n": 1, "to": 1, "a": 1}, None, [], (), 1]:
            self.pieces([whole_piece(zoo=[bad]), whole_piece(zoo=[bad, good]), whole_piece(zoo=[good, bad])], False)
            self.pieces([whole_piece(zoo=[good, bad, good])], False)
        self.pieces([whole_piece(lines=[{"line": "a"}, {"line": None}]), whole_piece(lines=[{"line": 1}])], False)

    def test_any_thing(self):
        self.pieces(ODD_THINGS, False)
        self.pieces([[whole_piece()], list(whole_piece()), list(whole_piece().items()), head_row()], False)

    def test_once_and_pointers_are_not_asked(self):
        form = form_of(5, [("main", "head", {}), ("side", "many", {"no": ("once", ("whole",)), "to": ("key",)})])
        self.assertIs(is_piece(form, {"main": [{}], "side": [{"no": 1, "to": 4}, {"no": 1, "to": 3}]}), True)
        self.assertIs(is_piece(form, {"main": [{}], "side": [{"no": 1, "to": 5}]}), False)


class TestCopied(FormsCase):
    def test_the_copy_is_equal_and_new(self):
        piece = whole_piece()
        copy = copied(piece)
        self.assertEqual(copy, piece)
        self.assertIs(is_piece(FORM, copy), True)
        self.assertIsNot(copy, piece)
        for table in piece:
            self.assertIsNot(copy[table], piece[table])
            for place, row in enumerate(piece[table]):
                self.assertIsNot(copy[table][place], row)

    def test_rows_that_were_one_are_two(self):
        row = {"n": 1, "to": None}
        copy = copied(whole_piece(zoo=[row, row]))
        copy["zoo"][0]["n"] = 7
        self.assertEqual(copy["zoo"], [{"n": 7, "to": None}, {"n": 1, "to": None}])

    def test_changes_to_the_one_leave_the_other(self):
        piece = whole_piece()
        copy = copied(piece)
        copy["main"][0]["text"] = "changed"
        copy["zoo"].pop()
        copy.pop("bare")
        self.assertEqual(piece, whole_piece())
        copy = copied(piece)
        piece["main"][0]["text"] = "changed"
        piece["zoo"].pop()
        piece.pop("bare")
        self.assertEqual(copy, whole_piece())

    def test_the_least_piece(self):
        self.assertEqual(copied({"a": [{}]}), {"a": [{}]})


if __name__ == "__main__":
    unittest.main()
