"""Points 40, 43, 44 and 49 as far as they speak of renumbering: divisor, inverse and Renumber."""

import unittest
from math import gcd

from halfmoved.forms import form_of
from halfmoved.renumber import Renumber, divisor, inverse
from test_move_case import COLUMNS, LONG, SIZE, SORTS, TABLES, MoveCase, mapped, piece_of, pieces, row_of, whole_form

FORM = whole_form()
GREAT = 10 ** 12


def form_of_size(size):
    return form_of(size, [(table, SORTS[table], COLUMNS) for table in TABLES])


def neighbours(many):
    # Two numbers of about that many figures which take Euclid's way the most steps.
    one = 1
    other = 1
    while len(str(other)) < many:
        following = one + other
        one = other
        other = following
    return (one, other)


class TestDivisor(MoveCase):
    def told(self, one, other, wanted):
        for first in (one, -one):
            for second in (other, -other):
                self.same(divisor(first, second), wanted)
                self.same(divisor(second, first), wanted)

    def test_nought(self):
        self.same(divisor(0, 0), 0)
        for number in (1, 2, 12, GREAT, LONG):
            self.told(0, number, number)

    def test_numbers_with_and_without_a_common_divisor(self):
        for one, other, wanted in (
            (1, 1, 1), (1, 12, 1), (2, 4, 2), (4, 6, 2), (12, 18, 6), (18, 12, 6), (7, 7, 7), (7, 13, 1), (8, 9, 1),
            (100, 75, 25), (17, 51, 17), (GREAT, 2 ** 30, 2 ** 12),
        ):
            self.told(one, other, wanted)

    def test_all_small_numbers(self):
        for one in range(-25, 26):
            for other in range(-25, 26):
                self.same(divisor(one, other), gcd(one, other))

    def test_large_numbers(self):
        self.told(LONG, LONG, LONG)
        self.told(LONG, 1, 1)
        self.told(LONG, LONG - 1, 1)
        self.told(3 ** 600, 3 ** 400 * 2 ** 300, 3 ** 400)
        one, other = neighbours(300)
        self.told(one, other, 1)
        one, other = neighbours(290)
        self.told(6 * one, 6 * other, 6)


class TestInverse(MoveCase):
    def test_size_one(self):
        for times in (0, 1, -1, 2, 5, -LONG):
            self.same(inverse(times, 1), 0)

    def test_nought(self):
        for size in (2, 3, 10, GREAT):
            self.assertIsNone(inverse(0, size))

    def test_some(self):
        for times, size, wanted in (
            (1, 2, 1), (1, 10, 1), (3, 10, 7), (7, 10, 3), (9, 10, 9), (-1, 10, 9), (-3, 10, 3), (13, 10, 7), (2, 7, 4),
            (-2, 7, 3), (2, 9, 5), (5, 12, 5), (11, 10, 1), (3, 11, 4), (GREAT - 1, GREAT, GREAT - 1),
        ):
            self.same(inverse(times, size), wanted)

    def test_none(self):
        for times, size in ((2, 2), (2, 4), (4, 2), (6, 9), (-6, 9), (10, 10), (5, 10), (-4, 10), (12, 10), (2, GREAT), (GREAT, 5)):
            self.assertIsNone(inverse(times, size))

    def test_all_of_small_sizes(self):
        for size in range(1, 26):
            for times in range(-2 * size, 2 * size + 1):
                found = [number for number in range(size) if number * times % size == 1 % size]
                self.same(inverse(times, size), found[0] if found else None)

    def test_large_numbers(self):
        one, other = neighbours(300)
        for times, size in (
            (3, GREAT), (GREAT - 3, GREAT), (-7, GREAT), (123456789, GREAT), (LONG, GREAT - 11), (GREAT + 1, GREAT),
            (one, other), (-one, other), (other, one), (LONG - 1, LONG), (2, LONG), (7, 2 ** 990),
        ):
            with self.subTest(times=times, size=size):
                told = inverse(times, size)
                self.assertIs(type(told), int)
                self.assertTrue(0 <= told < size)
                self.assertEqual(times * told % size, 1)

    def test_large_numbers_with_a_common_divisor(self):
        for times, size in ((6, 2 * GREAT // 5), (2 ** 990, 2 * 3 ** 600), (3 * (LONG // 3), 3 * (10 ** 200))):
            self.assertIsNone(inverse(times, size))


class TestRenumberForms(MoveCase):
    def test_the_form_stays(self):
        for times, plus in ((1, 0), (1, 5), (3, 0), (-1, -1), (7, LONG), (49, 49), (SIZE + 1, SIZE), (-LONG, 3)):
            self.leads(Renumber(times, plus, SIZE), FORM, FORM)

    def test_sizes(self):
        for size, times in ((1, 0), (1, 1), (1, 5), (2, 1), (2, 3), (10, 3), (GREAT, 3), (GREAT, -1), (GREAT - 11, 2)):
            for plus in (0, 1, -1, 5):
                form = form_of_size(size)
                self.leads(Renumber(times, plus, size), form, form)

    def test_a_form_without_pointers_or_side_tables(self):
        form = form_of(9, [("a", "head", {})])
        self.leads(Renumber(2, 1, 9), form, form)

    def test_another_size(self):
        for size in (1, 2, SIZE - 1, SIZE + 1, 2 * SIZE, SIZE // 2, GREAT):
            self.no_old(Renumber(1, 0, size), FORM)
            self.no_new(Renumber(1, 0, size), FORM)
            self.no_old(Renumber(1, 0, SIZE), form_of_size(size))
            self.no_new(Renumber(1, 0, SIZE), form_of_size(size))

    def test_a_common_divisor(self):
        for times, size in (
            (0, 2), (0, SIZE), (2, SIZE), (5, SIZE), (-5, SIZE), (10, SIZE), (SIZE, SIZE), (-SIZE, SIZE), (2 * SIZE, SIZE),
            (SIZE + 2, SIZE), (2, 4), (6, 9), (3, 9), (2, GREAT), (5 ** 12, GREAT), (10 ** 299, GREAT),
        ):
            for plus in (0, 1):
                with self.subTest(times=times, size=size):
                    self.no_old(Renumber(times, plus, size), form_of_size(size))
                    self.no_new(Renumber(times, plus, size), form_of_size(size))


class TestRenumberKeys(MoveCase):
    def test_some(self):
        for times, plus, size, key, wanted in (
            (1, 0, 10, 4, 4), (1, 3, 10, 4, 7), (1, 3, 10, 8, 1), (1, -3, 10, 1, 8), (3, 0, 10, 4, 2), (3, 5, 10, 4, 7),
            (-1, 0, 10, 0, 0), (-1, 0, 10, 4, 6), (-1, -1, 10, 0, 9), (7, 123, 10, 9, 6), (13, -27, 10, 9, 0),
            (5, 5, 1, 0, 0), (0, 0, 1, 0, 0), (1, 1, 2, 1, 0), (3, 1, GREAT, GREAT - 1, GREAT - 2),
        ):
            move = Renumber(times, plus, size)
            self.same(move.key_forth(key), wanted)
            self.same(move.key_back(wanted), key)

    def test_one_to_one_onto_all_keys(self):
        for size in (1, 2, 3, 7, 9, 10, 12):
            for times in range(-size - 2, size + 3):
                if gcd(times, size) != 1:
                    continue
                for plus in (0, 1, -1, size, 2 * size + 3, -LONG):
                    move = Renumber(times, plus, size)
                    keys = [move.key_forth(key) for key in range(size)]
                    self.same(keys, [(times * key + plus) % size for key in range(size)])
                    self.same(sorted(keys), list(range(size)))
                    self.same([move.key_back(key) for key in keys], list(range(size)))

    def test_large(self):
        for times, plus in ((3, 1), (-3, -1), (GREAT - 1, GREAT - 1), (LONG, LONG), (-LONG, -LONG)):
            move = Renumber(times, plus, GREAT)
            for key in (0, 1, GREAT // 2, GREAT - 1, 123456789):
                self.same(move.key_forth(key), (times * key + plus) % GREAT)
                self.same(move.key_back(move.key_forth(key)), key)
                self.same(move.key_forth(move.key_back(key)), key)


def pointing(many, change):
    # A piece with a pointer column more, in which each row points elsewhere than in the first one.
    piece = piece_of(many, 1 + many)
    for table in TABLES:
        piece = mapped(piece, table, lambda row: dict(row, a=change(row["o"]), k=change(row["k"])))
    return piece


TWO = form_of(SIZE, [(table, SORTS[table], dict(COLUMNS, a=("key",))) for table in TABLES])


class TestRenumberPieces(MoveCase):
    def test_pointers_in_all_tables(self):
        for times, plus in ((1, 0), (1, 7), (3, 0), (-1, 0), (7, -4), (49, 49), (51, 50)):
            move = Renumber(times, plus, SIZE)

            def turned(key):
                return None if key is None else (times * key + plus) % SIZE

            for piece in pieces():
                came = piece
                for table in TABLES:
                    came = mapped(came, table, lambda row: dict(row, k=turned(row["k"])))
                self.has_no_rests(move, FORM, piece, came)
            for many in (0, 1, 4):
                self.has_no_rests(move, TWO, pointing(many, lambda key: key), pointing(many, turned))

    def test_none_stays_and_nought_does_not(self):
        for table in TABLES:
            old = dict(piece_of(1), **{name: [row_of(3, k=None)] for name in TABLES})
            new = dict(old, **{table: [row_of(3, k=11)]})
            self.has_no_rests(Renumber(3, 11, SIZE), FORM, old, old)
            self.has_no_rests(Renumber(3, 11, SIZE), FORM, dict(old, **{table: [row_of(3, k=0)]}), new)

    def test_to_nought(self):
        for table in TABLES:
            old = dict(piece_of(0), **{name: [row_of(3, k=None)] for name in TABLES})
            new = dict(old, **{table: [row_of(3, k=0)]})
            self.has_no_rests(Renumber(1, 1, SIZE), FORM, dict(old, **{table: [row_of(3, k=SIZE - 1)]}), new)

    def test_other_numbers_stay(self):
        form = form_of(7, [("main", "head", {"b": ("below", 7), "n": ("whole",), "o": ("once", ("below", 7)), "u": ("upto", 7)})])
        piece = {"main": [{"b": 2, "n": 2, "o": 2, "u": 2}]}
        self.has_no_rests(Renumber(3, 1, 7), form, piece, piece)

    def test_a_form_of_one_key(self):
        form = form_of(1, [("main", "head", {"a": ("key",), "b": ("key",)})])
        piece = {"main": [{"a": 0, "b": None}]}
        self.has_no_rests(Renumber(5, 5, 1), form, piece, piece)

    def test_a_great_form(self):
        form = form_of(GREAT, [("main", "head", {}), ("side", "many", {"a": ("key",)})])
        old = {"main": [{}], "side": [{"a": 0}, {"a": GREAT - 1}, {"a": None}, {"a": 5}]}
        new = {"main": [{}], "side": [{"a": 1}, {"a": GREAT - 2}, {"a": None}, {"a": 16}]}
        self.has_no_rests(Renumber(3, 1, GREAT), form, old, new)

    def test_what_it_keeps(self):
        for move in (Renumber(1, 0, SIZE), Renumber(3, 1, SIZE), Renumber(0, 0, 1)):
            self.keeps(move, True, True)

    def test_words(self):
        for times, plus, size, wanted in (
            (1, 0, 10, (1, 0)), (3, 7, 10, (3, 7)), (13, 27, 10, (3, 7)), (-1, -1, 10, (9, 9)), (-13, -20, 10, (7, 0)),
            (1, 1, 1, (0, 0)), (0, 0, 1, (0, 0)), (GREAT + 3, -GREAT, GREAT, (3, 0)), (10 ** 299 + 1, -10 ** 299, GREAT, (1, 0)),
        ):
            self.words_are(Renumber(times, plus, size), ("renumber", wanted[0], wanted[1], size))

    def test_words_of_a_move_that_fits_no_form(self):
        self.words_are(Renumber(12, 3, 10), ("renumber", 2, 3, 10))


if __name__ == "__main__":
    unittest.main()
