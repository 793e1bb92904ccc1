"""Points 36 and 37, and 39 for their words: Part and Split."""

import unittest

from halfmoved.parts import Part, Split
from test_move_case import (
    KINDS, LONG, ODD_NAMES, ODD_NUMBERS, ODD_SIGNS, ODD_TABLES, ODD_THINGS, TABLES, MoveCase, mapped, other_columns, piece_of,
    pieces, row_of, small_form, whole_form, with_values,
)

FORM = whole_form()
# The column n parted in hi and lo, by 10.
NEW = {table: other_columns(FORM, table, n=None, hi=("whole",), lo=("below", 10)) for table in TABLES}


def parted(row, column, high, low, many):
    number = row.pop(column)
    row[high] = number // many
    row[low] = number % many
    return row


class TestPartForms(MoveCase):
    def test_one_column_becomes_two(self):
        for table in TABLES:
            self.leads(Part(table, "n", "hi", "lo", 10), FORM, NEW[table])

    def test_the_number_is_the_bound_of_low(self):
        for many in (1, 2, 60, 10 ** 9):
            new = other_columns(FORM, "lots", n=None, hi=("whole",), lo=("below", many))
            self.leads(Part("lots", "n", "hi", "lo", many), FORM, new)

    def test_a_table_of_one_column(self):
        for table in TABLES:
            new = small_form(table, y=("whole",), z=("below", 7))
            self.leads(Part(table, "a", "y", "z", 7), small_form(table, a=("whole",)), new)
            self.leads(Part(table, "zz", "z", "y", 7), small_form(table, zz=("whole",)), small_form(
                table, z=("whole",), y=("below", 7)))

    def test_high_by_the_name_of_the_column(self):
        for table in TABLES:
            self.leads(Part(table, "n", "n", "lo", 10), FORM, other_columns(FORM, table, lo=("below", 10)))

    def test_low_by_the_name_of_the_column(self):
        for table in TABLES:
            new = other_columns(FORM, table, n=("below", 10), hi=("whole",))
            self.leads(Part(table, "n", "hi", "n", 10), FORM, new)

    def test_names_that_other_tables_have(self):
        for table in TABLES:
            old = other_columns(FORM, table, b=None, w=None)
            new = other_columns(old, table, n=None, w=("whole",), b=("below", 3))
            self.leads(Part(table, "n", "w", "b", 3), old, new)

    def test_a_table_that_is_not_there(self):
        for table in ODD_TABLES:
            with self.subTest(table=table):
                self.no_old(Part(table, "n", "hi", "lo", 10), FORM)
                for form in NEW.values():
                    self.no_new(Part(table, "n", "hi", "lo", 10), form)

    def test_the_number_is_no_whole_number_from_one_on(self):
        for many in ODD_NUMBERS + [0, -1, -10]:
            with self.subTest(many=many):
                self.no_old(Part("main", "n", "hi", "lo", many), FORM)
                for kind in (("below", 1), ("below", 5), ("below", 10), ("whole",)):
                    self.no_new(Part("main", "n", "hi", "lo", many), other_columns(NEW["main"], "main", lo=kind))

    def test_high_is_no_name(self):
        for high in ODD_NAMES:
            with self.subTest(high=high):
                self.no_old(Part("few", "n", high, "lo", 10), FORM)
                self.no_new(Part("few", "n", high, "lo", 10), NEW["few"])

    def test_low_is_no_name(self):
        for low in ODD_NAMES:
            with self.subTest(low=low):
                self.no_old(Part("few", "n", "hi", low, 10), FORM)
                self.no_new(Part("few", "n", "hi", low, 10), NEW["few"])

    def test_high_and_low_alike(self):
        for name in ("hi", "n", "lo"):
            self.no_old(Part("lots", "n", name, name, 10), FORM)
            self.no_new(Part("lots", "n", name, name, 10), NEW["lots"])
            for kind in (("whole",), ("below", 10)):
                self.no_new(Part("lots", "n", name, name, 10), other_columns(FORM, "lots", **{"n": None, name: kind}))
        for thing in ODD_THINGS:
            self.no_old(Part("lots", "n", thing, thing, 10), FORM)
            self.no_new(Part("lots", "n", thing, thing, 10), NEW["lots"])

    def test_old_without_the_column(self):
        for column in ODD_NAMES + ["new", "hi", "lo"]:
            with self.subTest(column=column):
                self.no_old(Part("pair", column, "hi", "lo", 10), FORM)
        for table in TABLES:
            self.no_old(Part(table, "n", "hi", "lo", 10), NEW[table])

    def test_old_of_another_kind(self):
        for kind in KINDS + [("below", 10)]:
            if kind != ("whole",):
                self.no_old(Part("main", "n", "hi", "lo", 10), other_columns(FORM, "main", n=kind))

    def test_old_with_another_column_by_such_a_name(self):
        for table in TABLES:
            for kind in (("whole",), ("below", 10), ("word",)):
                self.no_old(Part(table, "n", "hi", "lo", 10), other_columns(FORM, table, hi=kind))
                self.no_old(Part(table, "n", "hi", "lo", 10), other_columns(FORM, table, lo=kind))
                self.no_old(Part(table, "n", "n", "lo", 10), other_columns(FORM, table, lo=kind))
                self.no_old(Part(table, "n", "hi", "n", 10), other_columns(FORM, table, hi=kind))

    def test_new_without_high_or_low(self):
        for table in TABLES:
            self.no_new(Part(table, "n", "hi", "lo", 10), other_columns(NEW[table], table, hi=None))
            self.no_new(Part(table, "n", "hi", "lo", 10), other_columns(NEW[table], table, lo=None))
            self.no_new(Part(table, "n", "hi", "lo", 10), FORM)

    def test_new_with_high_of_another_kind(self):
        for kind in KINDS + [("below", 10)]:
            if kind != ("whole",):
                self.no_new(Part("few", "n", "hi", "lo", 10), other_columns(NEW["few"], "few", hi=kind))

    def test_new_with_low_of_another_kind(self):
        for kind in KINDS + [("below", 9), ("below", 11), ("upto", 10), ("upto", 9)]:
            self.no_new(Part("lots", "n", "hi", "lo", 10), other_columns(NEW["lots"], "lots", lo=kind))

    def test_new_with_high_and_low_exchanged(self):
        self.no_new(Part("main", "n", "lo", "hi", 10), NEW["main"])

    def test_new_with_a_column_by_the_old_name(self):
        for table in TABLES:
            for kind in (("whole",), ("below", 10), ("word",)):
                self.no_new(Part(table, "n", "hi", "lo", 10), other_columns(NEW[table], table, n=kind))

    def test_new_where_the_column_is_no_name(self):
        for column in ODD_NAMES:
            with self.subTest(column=column):
                self.no_new(Part("pair", column, "hi", "lo", 10), NEW["pair"])


class TestPartPieces(MoveCase):
    def test_numbers_on_both_sides_of_nought(self):
        for many, number, high, low in (
            (10, 0, 0, 0), (10, 9, 0, 9), (10, 10, 1, 0), (10, 123, 12, 3), (10, -1, -1, 9), (10, -10, -1, 0), (10, -11, -2, 9),
            (60, 61, 1, 1), (60, -61, -2, 59), (2, 7, 3, 1), (2, -7, -4, 1), (7, -7, -1, 0), (1, 5, 5, 0), (1, -5, -5, 0),
            (1, 0, 0, 0), (10 ** 9, 10 ** 9 - 1, 0, 10 ** 9 - 1), (10 ** 9, -1, -1, 10 ** 9 - 1), (10, LONG, 10 ** 298, 7),
            (10, -LONG, -10 ** 298 - 1, 3),
        ):
            for table in TABLES:
                with self.subTest(many=many, number=number, table=table):
                    old = with_values(piece_of(1), table, "n", [number])
                    new = mapped(old, table, lambda row: parted(row, "n", "hi", "lo", many))
                    self.assertEqual((new[table][0]["hi"], new[table][0]["lo"]), (high, low))
                    self.has_no_rests(Part(table, "n", "hi", "lo", many), FORM, old, new)

    def test_high_and_low_by_all_names(self):
        for table in TABLES:
            for high, low in (("hi", "lo"), ("n", "lo"), ("hi", "n"), ("a", "z"), ("z", "a"), ("n", "a"), ("z", "n")):
                for piece in pieces():
                    new = mapped(piece, table, lambda row: parted(row, "n", high, low, 4))
                    self.has_no_rests(Part(table, "n", high, low, 4), FORM, piece, new)

    def test_many_rows(self):
        for table in ("few", "lots"):
            old = with_values(piece_of(1), table, "n", list(range(-30, 30)))
            new = mapped(old, table, lambda row: parted(row, "n", "hi", "lo", 7))
            self.has_no_rests(Part(table, "n", "hi", "lo", 7), FORM, old, new)

    def test_what_it_keeps_its_keys_and_words(self):
        move = Part("main", "n", "hi", "lo", 10)
        self.keeps(move, True, True)
        self.leaves_keys(move)
        self.words_are(move, ("part", "main", "n", "hi", "lo", 10))
        for thing in ODD_THINGS:
            self.words_are(Part(thing, "n", "hi", "lo", 0), ("part", thing, "n", "hi", "lo", 0))
            self.words_are(Part("main", thing, "hi", "lo", 1), ("part", "main", thing, "hi", "lo", 1))
            self.words_are(Part("main", "n", thing, "lo", 1), ("part", "main", "n", thing, "lo", 1))
            self.words_are(Part("main", "n", "hi", thing, 1), ("part", "main", "n", "hi", thing, 1))
            self.words_are(Part("main", "n", "hi", "lo", thing), ("part", "main", "n", "hi", "lo", thing))


SIGNS = "/ ,;:.|+*?^$()[]{}\\-_'\"#&<=>@`~!0az AZ"


class TestSplitForms(MoveCase):
    def test_word_to_some(self):
        for table in TABLES:
            for sign in SIGNS:
                self.leads(Split(table, "w", sign), FORM, other_columns(FORM, table, w=("some", ("without", sign))))

    def test_a_table_of_one_column(self):
        for table in TABLES:
            new = small_form(table, a=("some", ("without", "/")))
            self.leads(Split(table, "a", "/"), small_form(table, a=("word",)), new)

    def test_a_table_that_is_not_there(self):
        new = other_columns(FORM, "main", w=("some", ("without", "/")))
        for table in ODD_TABLES:
            with self.subTest(table=table):
                self.no_old(Split(table, "w", "/"), FORM)
                self.no_new(Split(table, "w", "/"), new)

    def test_a_column_that_is_not_there(self):
        new = other_columns(FORM, "main", w=("some", ("without", "/")))
        for column in ODD_NAMES + ["new", "main"]:
            with self.subTest(column=column):
                self.no_old(Split("main", column, "/"), FORM)
                self.no_new(Split("main", column, "/"), new)

    def test_the_column_of_another_table_alone(self):
        new = FORM
        for table in TABLES:
            new = other_columns(new, table, w=("some", ("without", "/")))
        for table in TABLES:
            self.no_old(Split(table, "w", "/"), other_columns(FORM, table, w=None))
            self.no_new(Split(table, "w", "/"), other_columns(new, table, w=None))

    def test_old_of_another_kind(self):
        for kind in KINDS:
            if kind != ("word",):
                self.no_old(Split("few", "w", "/"), other_columns(FORM, "few", w=kind))

    def test_new_of_another_kind(self):
        for kind in KINDS:
            if kind != ("some", ("without", "/")):
                self.no_new(Split("few", "w", "/"), other_columns(FORM, "few", w=kind))

    def test_new_with_another_sign(self):
        for sign in SIGNS[1:]:
            self.no_new(Split("lots", "w", "/"), other_columns(FORM, "lots", w=("some", ("without", sign))))

    def test_the_sign_is_no_text_of_one_sign(self):
        for sign in ODD_SIGNS:
            with self.subTest(sign=sign):
                self.no_old(Split("pair", "w", sign), FORM)
                for kind in (("some", ("without", "/")), ("some", ("word",)), ("some", ("without", "a")), ("word",)):
                    self.no_new(Split("pair", "w", sign), other_columns(FORM, "pair", w=kind))


class TestSplitPieces(MoveCase):
    def test_texts(self):
        for text, parts in (
            ("", ("",)), ("a", ("a",)), ("abc", ("abc",)), ("a,b", ("a,b",)), ("/", ("", "")), ("//", ("", "", "")),
            ("/a", ("", "a")), ("a/", ("a", "")), ("a/b", ("a", "b")), ("a//b", ("a", "", "b")), ("a/b/c", ("a", "b", "c")),
            ("//a/ b /", ("", "", "a", " b ", "")), (" / ", (" ", " ")), ("b/a/b", ("b", "a", "b")),
        ):
            for table in TABLES:
                with self.subTest(text=text, table=table):
                    old = with_values(piece_of(1), table, "w", [text])
                    new = with_values(piece_of(1), table, "w", [parts])
                    self.has_no_rests(Split(table, "w", "/"), FORM, old, new)

    def test_every_sign(self):
        for sign in SIGNS:
            others = [other for other in SIGNS if other != sign]
            texts = ["", sign, sign + sign, "x" + sign, sign + "x", "x" + sign + sign + "x", "".join(others), sign.join(others)]
            parts = [
                ("",), ("", ""), ("", "", ""), ("x", ""), ("", "x"), ("x", "", "x"), ("".join(others),), tuple(others),
            ]
            old = with_values(piece_of(1), "lots", "w", texts)
            new = with_values(piece_of(1), "lots", "w", parts)
            self.has_no_rests(Split("lots", "w", sign), FORM, old, new)

    def test_blanks_are_split_one_by_one(self):
        old = with_values(piece_of(1), "few", "w", ["  a  b ", " ", "a b"])
        new = with_values(piece_of(1), "few", "w", [("", "", "a", "", "b", ""), ("", ""), ("a", "b")])
        self.has_no_rests(Split("few", "w", " "), FORM, old, new)

    def test_great_and_small_letters_are_unlike(self):
        old = with_values(piece_of(1), "few", "w", ["aAbAa"])
        self.has_no_rests(Split("few", "w", "A"), FORM, old, with_values(piece_of(1), "few", "w", [("a", "b", "a")]))

    def test_a_long_text(self):
        old = with_values(piece_of(1), "main", "w", ["a/" * 150])
        self.has_no_rests(Split("main", "w", "/"), FORM, old, with_values(old, "main", "w", [("a",) * 150 + ("",)]))

    def test_no_row_and_many_rows(self):
        for table in TABLES:
            for piece in pieces():
                new = mapped(piece, table, lambda row: dict(row, w=tuple(row["w"].split("/"))))
                self.has_no_rests(Split(table, "w", "/"), FORM, piece, new)

    def test_texts_beside_it_stay(self):
        form = other_columns(FORM, "pair", a=("word",), z=("word",))
        old = dict(piece_of(1), pair=[row_of(2, a="a/b", w="a/b", z="a/b")])
        new = dict(piece_of(1), pair=[row_of(2, a="a/b", w=("a", "b"), z="a/b")])
        self.has_no_rests(Split("pair", "w", "/"), form, old, new)

    def test_what_it_keeps_its_keys_and_words(self):
        move = Split("main", "w", "/")
        self.keeps(move, True, True)
        self.leaves_keys(move)
        self.words_are(move, ("split", "main", "w", "/"))
        for thing in ODD_THINGS:
            self.words_are(Split(thing, "w", "/"), ("split", thing, "w", "/"))
            self.words_are(Split("main", thing, "/"), ("split", "main", thing, "/"))
            self.words_are(Split("main", "w", thing), ("split", "main", "w", thing))


if __name__ == "__main__":
    unittest.main()
