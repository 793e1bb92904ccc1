"""Points 30 and 31: what holds for every move, over seeded runs of forms, pieces and earlier rests."""

import random
import unittest
from copy import deepcopy

from halfmoved.forms import form_of, is_piece
from halfmoved.moves import Cap, Move, Put, Rename
from halfmoved.parts import Part, Split
from halfmoved.renumber import Renumber
from halfmoved.sides import Cleave, Rows
from halfmoved.turns import Shift, Turn
from test_move_case import MoveCase

SIZE = 21
SORTS = ("head", "twin", "many", "some")
NAMES = ["a", "b", "c", "d", "e", "f"]
VALUES = {
    ("whole",): list(range(-6, 9)), ("below", 4): [0, 1, 2, 3], ("upto", 2): [-3, -1, 0, 1, 2], ("word",): ["", "a", "/", "a/b", "//a"],
    ("without", "/"): ["", "a", "ab", " "], ("key",): [None, 0, 1, 5, 20], ("list", ("whole",)): [(), (1,), (1, -1)],
    ("some", ("without", "/")): [("",), ("a",), ("a", ""), ("", "b", "a")], ("once", ("word",)): ["", "x", "y/z"],
}
TABLES = ["main", "left", "more", "other", "zoo"]


def random_form(chance, table, wanted):
    # The one table has the columns that are wanted, and others by chance.
    parts = []
    for name in TABLES:
        columns = {}
        for column in chance.sample(NAMES, chance.randrange(4)):
            columns[column] = chance.choice(list(VALUES))
        if name == table:
            columns.update(wanted)
        parts.append((name, "head" if name == "main" else chance.choice(SORTS[1:]), columns))
    return form_of(SIZE, parts)


def random_piece(chance, form):
    piece = {}
    for name, sort, columns in form[1]:
        many = 1 if sort in ("head", "twin") else chance.randrange(sort == "some", 5)
        piece[name] = [{column: chance.choice(VALUES[kind]) for column, kind in columns} for place in range(many)]
    return piece


def all_moves(chance, table):
    # Each move with the columns that it needs in its table.
    put_kind = chance.choice([kind for kind in VALUES if kind[0] not in ("key", "once")])
    return [
        (Move(), {}),
        (Put(table, "p", put_kind, chance.choice(VALUES[put_kind])), {}),
        (Cap(table, "p", 2), {"p": ("whole",)}),
        (Rename(table, "p", "q"), {"p": chance.choice(list(VALUES))}),
        (Part(table, "p", "q", "r", 4), {"p": ("whole",)}),
        (Part(table, "p", "p", "r", 4), {"p": ("whole",)}),
        (Part(table, "p", "q", "p", 4), {"p": ("whole",)}),
        (Split(table, "p", "/"), {"p": ("word",)}),
        (Turn(table, "p", ("below", 4), ("below", 4), lambda value: 3 - value, lambda value: 3 - value), {"p": ("below", 4)}),
        (Shift(table, "p", chance.randrange(-9, 10)), {"p": ("whole",)}),
        (Renumber(chance.choice([1, 2, 4, 5, -1, 20]), chance.randrange(-30, 30), SIZE), {}),
    ]


def side_moves(chance):
    # Each with the columns that it needs in the head.
    side = chance.choice(["aa", "mm", "zzz"])
    kind = chance.choice(list(VALUES))
    other = chance.choice(list(VALUES))
    return [
        (Rows("p", side), {"p": ("list", ("whole",))}),
        (Rows("p", side), {"p": ("some", ("without", "/"))}),
        (Cleave(side, []), {}),
        (Cleave(side, ["p"]), {"p": kind}),
        (Cleave(side, ["q", "p"]), {"p": kind, "q": other}),
    ]


class LawCase(MoveCase):
    def keeps_the_laws(self, chance, move, old):
        new = move.after(old)
        self.leads(move, old, new)
        olds = [random_piece(chance, old) for count in range(4)]
        news = [random_piece(chance, new) for count in range(4)]
        self.forth_and_back(chance, move, old, new, olds, news)
        self.back_and_forth(chance, move, old, new, olds, news)

    def earlier_left(self, chance, move, old, new, olds, news):
        # Told by the move of whatever piece: by left, or by back.
        if chance.randrange(4) == 0:
            return None
        if chance.randrange(2) == 0:
            return move.left(old, chance.choice(olds))
        piece = chance.choice(news)
        return move.back(new, piece, move.right(new, piece))[1]

    def earlier_right(self, chance, move, old, new, olds, news):
        if chance.randrange(4) == 0:
            return None
        if chance.randrange(2) == 0:
            return move.right(new, chance.choice(news))
        piece = chance.choice(olds)
        return move.forth(old, piece, move.left(old, piece))[1]

    def forth_and_back(self, chance, move, old, new, olds, news):
        for piece in olds:
            earlier = self.earlier_left(chance, move, old, new, olds, news)
            left = move.left(old, deepcopy(piece), deepcopy(earlier))
            self.same(move.left(old, deepcopy(piece), deepcopy(left)), left)
            came, right = move.forth(old, deepcopy(piece), deepcopy(left))
            self.assertTrue(is_piece(new, came))
            self.same(move.back(new, deepcopy(came), deepcopy(right)), (piece, left))
            self.same(move.right(new, deepcopy(came), deepcopy(right)), right)

    def back_and_forth(self, chance, move, old, new, olds, news):
        for piece in news:
            earlier = self.earlier_right(chance, move, old, new, olds, news)
            right = move.right(new, deepcopy(piece), deepcopy(earlier))
            self.same(move.right(new, deepcopy(piece), deepcopy(right)), right)
            came, left = move.back(new, deepcopy(piece), deepcopy(right))
            self.assertTrue(is_piece(old, came))
            self.same(move.forth(old, deepcopy(came), deepcopy(left)), (piece, right))
            self.same(move.left(old, deepcopy(came), deepcopy(left)), left)


class TestLaws(LawCase):
    def test_all_moves(self):
        chance = random.Random(31)
        for turn in range(60):
            table = chance.choice(TABLES)
            for move, wanted in all_moves(chance, table):
                self.keeps_the_laws(chance, move, random_form(chance, table, wanted))

    def test_moves_of_the_head_and_side_tables(self):
        chance = random.Random(41)
        for turn in range(60):
            for move, wanted in side_moves(chance):
                self.keeps_the_laws(chance, move, random_form(chance, "main", wanted))


class TestKeeping(MoveCase):
    # What a True of point 30 says, and where a False is needed, over all pieces of a few rows.
    def fresh_forth(self, move, old, pieces):
        return [move.forth(old, piece, move.left(old, piece))[0] for piece in pieces]

    def fresh_back(self, move, new, pieces):
        return [move.back(new, piece, move.right(new, piece))[0] for piece in pieces]

    def unlike(self, pieces):
        return len(set(repr(sorted(piece["main"][0].items())) for piece in pieces)) == len(pieces)

    def test_whether_pieces_become_one(self):
        for move, kind, values in (
            (Move(), ("whole",), [-1, 0, 1, 2]), (Rename("main", "p", "q"), ("word",), ["", "a", "b"]),
            (Part("main", "p", "q", "r", 3), ("whole",), list(range(-7, 8))), (Shift("main", "p", 2), ("whole",), [0, 1, 2]),
            (Split("main", "p", "/"), ("word",), ["", "/", "//", "a/", "/a", "a"]),
            (Renumber(2, 1, SIZE), ("key",), [None] + list(range(SIZE))),
            (Put("main", "q", ("whole",), 0), ("whole",), [0, 1, 2]), (Cap("main", "p", 1), ("whole",), [0, 1, 2, 3]),
        ):
            with self.subTest(move=move):
                old = form_of(SIZE, [("main", "head", {"p": kind})])
                olds = [{"main": [{"p": value}]} for value in values]
                news = self.fresh_forth(move, old, olds)
                self.assertIs(self.unlike(news), move.keeps_forth())
                if move.keeps_back() and move.keeps_forth():
                    self.same(self.fresh_back(move, move.after(old), news), olds)

    def test_put_and_cap_the_other_way(self):
        put = Put("main", "q", ("whole",), 0)
        new = form_of(SIZE, [("main", "head", {"p": ("whole",), "q": ("whole",)})])
        news = [{"main": [{"p": 1, "q": value}]} for value in (0, 1, 2)]
        self.assertIs(self.unlike(self.fresh_back(put, new, news)), put.keeps_back())
        cap = Cap("main", "p", 1)
        capped = form_of(SIZE, [("main", "head", {"p": ("upto", 1)})])
        news = [{"main": [{"p": value}]} for value in (-1, 0, 1)]
        self.assertIs(self.unlike(self.fresh_back(cap, capped, news)), cap.keeps_back())


if __name__ == "__main__":
    unittest.main()
