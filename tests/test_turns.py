"""Points 38 and 39: Turn and Shift."""

import unittest

from halfmoved.turns import Shift, Turn
from test_move_case import (
    KINDS, LONG, NOT_PLAIN, ODD_KINDS, ODD_NAMES, ODD_NUMBERS, ODD_TABLES, ODD_THINGS, TABLES, MoveCase, mapped, other_columns,
    piece_of, pieces, row_of, small_form, whole_form, with_values,
)

FORM = whole_form()
PLAIN = [kind for kind in KINDS if kind not in NOT_PLAIN]


def same_way(value):
    return value


def doubled(value):
    return 2 * value


def halved(value):
    return value // 2


def backwards(text):
    return text[::-1]


def turn(table="main", column="n", old=("whole",), new=("whole",), forth=same_way, back=same_way):
    return Turn(table, column, old, new, forth, back)


class TestTurnForms(MoveCase):
    def test_from_each_plain_kind_to_each(self):
        for table in TABLES:
            for old in PLAIN:
                for new in PLAIN:
                    self.leads(turn(table, "n", old, new), other_columns(FORM, table, n=old), other_columns(FORM, table, n=new))

    def test_a_table_of_one_column(self):
        for table in TABLES:
            self.leads(turn(table, "a", ("word",), ("whole",)), small_form(table, a=("word",)), small_form(table, a=("whole",)))

    def test_a_table_that_is_not_there(self):
        for table in ODD_TABLES:
            with self.subTest(table=table):
                self.no_old(turn(table), FORM)
                self.no_new(turn(table), FORM)

    def test_a_column_that_is_not_there(self):
        for column in ODD_NAMES + ["new", "main"]:
            with self.subTest(column=column):
                self.no_old(turn("main", column), FORM)
                self.no_new(turn("main", column), FORM)

    def test_the_column_of_another_table_alone(self):
        for table in TABLES:
            self.no_old(turn(table), other_columns(FORM, table, n=None))
            self.no_new(turn(table), other_columns(FORM, table, n=None))

    def test_the_column_is_of_another_kind(self):
        for kind in PLAIN:
            for other in KINDS:
                if other != kind:
                    form = other_columns(FORM, "few", n=other)
                    self.no_old(turn("few", "n", kind, other if other in PLAIN else ("word",)), form)
                    self.no_new(turn("few", "n", other if other in PLAIN else ("word",), kind), form)

    def test_kinds_that_are_not_plain(self):
        for kind in NOT_PLAIN:
            form = other_columns(FORM, "lots", n=kind)
            for other in (("whole",), ("word",), kind):
                with self.subTest(kind=kind, other=other):
                    self.no_old(turn("lots", "n", kind, other), form)
                    self.no_new(turn("lots", "n", kind, other), other_columns(FORM, "lots", n=other))
                    self.no_old(turn("lots", "n", other, kind), other_columns(FORM, "lots", n=other))
                    self.no_new(turn("lots", "n", other, kind), form)

    def test_kinds_that_are_none(self):
        for kind in ODD_KINDS:
            with self.subTest(kind=kind):
                for move in (turn("pair", "n", kind, ("whole",)), turn("pair", "n", ("whole",), kind), turn("pair", "n", kind, kind)):
                    self.no_old(move, FORM)
                    self.no_new(move, FORM)

    def test_a_kind_that_equals_one_and_is_none(self):
        for good, kind in ((("below", 1), ("below", True)), (("upto", 1), ("upto", True)), (("upto", 5), ("upto", 5.0))):
            form = other_columns(FORM, "main", n=good)
            for move in (turn("main", "n", kind, good), turn("main", "n", good, kind), turn("main", "n", kind, kind)):
                self.no_old(move, form)
                self.no_new(move, form)


class TestTurnPieces(MoveCase):
    def test_ways_one_to_one(self):
        for column, old, new, forth, back in (
            ("n", ("whole",), ("whole",), lambda value: -value, lambda value: -value),
            ("n", ("whole",), ("whole",), lambda value: value + 3, lambda value: value - 3),
            ("b", ("below", 4), ("below", 4), lambda value: (value + 1) - 4 * (value // 3), lambda value: (value + 3) % 4),
            ("u", ("upto", 5), ("upto", -1), lambda value: value - 6, lambda value: value + 6),
            ("w", ("word",), ("word",), backwards, backwards),
            ("x", ("without", "/"), ("without", ","), lambda text: text.replace(",", "/"), lambda text: text.replace("/", ",")),
            ("b", ("below", 4), ("below", 4), same_way, same_way),
        ):
            for table in TABLES:
                for piece in pieces():
                    came = mapped(piece, table, lambda row: dict(row, **{column: forth(row[column])}))
                    self.has_no_rests(Turn(table, column, old, new, forth, back), FORM, piece, came)

    def test_from_one_kind_to_another(self):
        form = other_columns(FORM, "lots", n=("below", 3))
        old = with_values(piece_of(1), "lots", "n", [0, 1, 2, 1])
        new = with_values(piece_of(1), "lots", "n", [0, -1, -2, -1])
        move = Turn("lots", "n", ("below", 3), ("upto", 0), lambda value: -value, lambda value: -value)
        self.has_no_rests(move, form, old, new)

    def test_ways_that_are_not_one_to_one(self):
        for table in TABLES:
            old = with_values(piece_of(1), table, "n", [7])
            doubles = with_values(piece_of(1), table, "n", [14])
            halves = with_values(piece_of(1), table, "n", [3])
            self.goes_forth(turn(table, forth=doubled, back=halved), FORM, old, None, doubles, None)
            self.goes_back(turn(table, forth=doubled, back=halved), FORM, old, None, halves, None)
            self.goes_forth(turn(table, forth=halved, back=doubled), FORM, old, None, halves, None)
            self.goes_back(turn(table, forth=halved, back=doubled), FORM, old, None, doubles, None)

    def test_values_beside_it_stay(self):
        form = other_columns(FORM, "pair", a=("whole",), z=("whole",))
        old = dict(piece_of(1), pair=[row_of(2, a=1, n=2, z=3)])
        new = dict(piece_of(1), pair=[row_of(2, a=1, n=-2, z=3)])
        self.has_no_rests(turn("pair", forth=lambda value: -value, back=lambda value: -value), form, old, new)

    def test_what_it_keeps_its_keys_and_words(self):
        for move in (turn(), turn(forth=doubled, back=halved), turn(old=("word",)), turn(old=("key",), new=None)):
            self.keeps(move, True, True)
            self.leaves_keys(move)
            self.assertIsNone(move.words())


class TestShift(MoveCase):
    def test_whole_numbers_stay_whole_numbers(self):
        for table in TABLES:
            for by in (0, 1, -1, LONG):
                self.leads(Shift(table, "n", by), FORM, FORM)

    def test_it_is_a_turn(self):
        self.assertIsInstance(Shift("main", "n", 1), Turn)

    def test_forth_and_back(self):
        for by in (0, 1, -1, 25, -25, LONG, -LONG):
            for table in TABLES:
                for piece in pieces():
                    came = mapped(piece, table, lambda row: dict(row, n=row["n"] + by))
                    self.has_no_rests(Shift(table, "n", by), FORM, piece, came)

    def test_some_numbers(self):
        old = with_values(piece_of(1), "lots", "n", [0, 1, -1, LONG, -3])
        new = with_values(piece_of(1), "lots", "n", [3, 4, 2, LONG + 3, 0])
        self.has_no_rests(Shift("lots", "n", 3), FORM, old, new)

    def test_a_table_that_is_not_there(self):
        for table in ODD_TABLES:
            self.no_old(Shift(table, "n", 1), FORM)
            self.no_new(Shift(table, "n", 1), FORM)

    def test_a_column_that_is_not_there(self):
        for column in ODD_NAMES + ["new", "main"]:
            self.no_old(Shift("main", column, 1), FORM)
            self.no_new(Shift("main", column, 1), FORM)

    def test_the_column_of_another_table_alone(self):
        for table in TABLES:
            self.no_old(Shift(table, "n", 1), other_columns(FORM, table, n=None))
            self.no_new(Shift(table, "n", 1), other_columns(FORM, table, n=None))

    def test_the_column_is_of_another_kind(self):
        for kind in KINDS:
            if kind != ("whole",):
                self.no_old(Shift("few", "n", 1), other_columns(FORM, "few", n=kind))
                self.no_new(Shift("few", "n", 1), other_columns(FORM, "few", n=kind))

    def test_by_what_is_no_whole_number(self):
        for by in ODD_NUMBERS:
            with self.subTest(by=by):
                self.no_old(Shift("pair", "n", by), FORM)
                self.no_new(Shift("pair", "n", by), FORM)

    def test_what_it_keeps_its_keys_and_words(self):
        for by in (0, 7, -7, LONG):
            move = Shift("main", "n", by)
            self.keeps(move, True, True)
            self.leaves_keys(move)
            self.words_are(move, ("shift", "main", "n", by))
        for thing in ODD_THINGS:
            self.words_are(Shift(thing, "n", 1), ("shift", thing, "n", 1))
            self.words_are(Shift("main", thing, 1), ("shift", "main", thing, 1))
            self.words_are(Shift("main", "n", thing), ("shift", "main", "n", thing))


if __name__ == "__main__":
    unittest.main()
