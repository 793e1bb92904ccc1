"""Point 59: what moves laid together lead to, and what programs of the outermost forms read through them."""

import random
import unittest
from copy import deepcopy

from halfmoved.chains import Chain, Turned
from halfmoved.errors import NoMove
from halfmoved.forms import columns_of, form_of, is_piece
from halfmoved.laid import laid
from halfmoved.lines import move_of
from halfmoved.moves import Cap, Put, Rename
from halfmoved.parts import Part, Split
from halfmoved.renumber import Renumber
from halfmoved.sides import Cleave, Rows
from halfmoved.turns import Shift
from test_chains import fitting_move
from test_move_case import MoveCase
from test_move_laws import NAMES, SIZE, VALUES, random_form, random_piece

WHOLE = ("whole",)
WORD = ("word",)


class Ends:
    """One thing, read and written by programs of the first and the last form of a move."""

    def __init__(self, move, old, piece):
        self.move = move
        self.old = old
        self.new = move.after(old)
        self.piece = deepcopy(piece)
        self.rest = move.left(old, self.piece)
        self.is_new = False

    def read_old(self):
        if self.is_new:
            self.piece, self.rest = self.move.back(self.new, self.piece, self.rest)
            self.is_new = False
        return deepcopy(self.piece)

    def read_new(self):
        if not self.is_new:
            self.piece, self.rest = self.move.forth(self.old, self.piece, self.rest)
            self.is_new = True
        return deepcopy(self.piece)

    def write_old(self, piece):
        self.read_old()
        self.piece = deepcopy(piece)
        self.rest = self.move.left(self.old, self.piece, self.rest)

    def write_new(self, piece):
        self.read_new()
        self.piece = deepcopy(piece)
        self.rest = self.move.right(self.new, self.piece, self.rest)


class LaidLawCase(MoveCase):
    def laid_chain(self, moves):
        return Chain([move_of(words) for words in laid([move.words() for move in moves])])

    def does_alike(self, chance, moves, old):
        chain = Chain(moves)
        other = self.laid_chain(moves)
        new = chain.after(old)
        self.leads(other, old, new)
        for key in range(SIZE):
            self.same(other.key_forth(key), chain.key_forth(key))
            self.same(other.key_back(key), chain.key_back(key))
        for count in range(2):
            self.read_alike(chance, chain, other, old)
        return other

    def read_alike(self, chance, chain, other, old):
        piece = random_piece(chance, old)
        one = Ends(chain, old, piece)
        two = Ends(other, old, piece)
        for turn in range(8):
            if chance.randrange(2) == 0:
                piece = self.near(chance, old, one.read_old())
                one.write_old(piece)
                two.write_old(piece)
            else:
                piece = self.near(chance, one.new, one.read_new())
                one.write_new(piece)
                two.write_new(piece)
            if chance.randrange(2) == 0:
                self.same(two.read_old(), one.read_old())
            self.same(two.read_new(), one.read_new())
            self.assertTrue(is_piece(one.new, one.read_new()))
            self.same(two.read_old(), one.read_old())

    def near(self, chance, form, piece):
        # Now and then quite another piece, mostly one with the same values in some tables.
        other = random_piece(chance, form)
        for table in other:
            if chance.randrange(3) > 0:
                other[table] = deepcopy(piece[table])
        return other


def linked(chance, form, last):
    # A move that has something to do with the one ahead of it.
    words = last.words()
    name = chance.choice(NAMES + ["p", "q"])
    if words[0] == "put":
        return chance.choice([Turned(last), Rename(words[1], words[2], name), Turned(Rename(words[1], name, words[2]))])
    if words[0] == "rename":
        kind = columns_of(form, words[1])[words[3]]
        value = chance.choice(VALUES[kind])
        return chance.choice([Turned(last), Rename(words[1], words[3], name), Turned(Put(words[1], words[3], kind, value))])
    if words[0] == "shift":
        return Shift(words[1], words[2], chance.randrange(-3, 4))
    if words[0] == "renumber":
        return Turned(Renumber(chance.choice([1, 2, 4]), chance.randrange(SIZE), SIZE))
    return Turned(last)


def worded_moves(chance, form, most):
    moves = []
    for count in range(chance.randrange(1, most + 1)):
        move = linked(chance, form, moves[-1]) if moves and chance.randrange(5) < 3 else fitting_move(chance, form, 1)
        while not fits_with_words(move, form):
            move = fitting_move(chance, form, 1)
        moves.append(move)
        form = move.after(form)
    return moves


def fits_with_words(move, form):
    try:
        after = move.after(form)
    except NoMove:
        return False
    return move.words() is not None and all(kind in VALUES for name, sort, columns in after[1] for column, kind in columns)


class TestByChance(LaidLawCase):
    def test_lists_of_moves(self):
        chance = random.Random(590)
        shorter = 0
        for turn in range(160):
            old = random_form(chance, "main", {})
            moves = worded_moves(chance, old, 8)
            other = self.does_alike(chance, moves, old)
            shorter = shorter + (len(other.moves) < len(moves))
        self.assertGreater(shorter, 50)


class TestByHand(LaidLawCase):
    # Every rule of point 57, and every pair that it leaves alone, in one form that has a column for each.
    def form(self):
        columns = {"n": WHOLE, "u": ("upto", 2), "w": WORD, "t": ("some", ("without", "/")), "k": ("key",), "l": ("list", WHOLE)}
        return form_of(SIZE, [
            ("main", "head", columns), ("more", "many", {"n": WHOLE, "u": ("upto", 2)}),
            ("hi", "twin", {"h": WHOLE, "i": ("below", 4)}), ("rows", "some", {"z": ("without", "/")}),
        ])

    def lists(self):
        put = Put("more", "p", WHOLE, 3)
        cap = Cap("more", "n", 2)
        uncap = Cap("more", "u", 2)
        join = Part("hi", "q", "h", "i", 4)
        return [
            ([], 0),
            ([put, Turned(put)], 0),
            ([Turned(uncap), uncap], 0),
            ([cap, Turned(cap)], 2),
            ([Turned(Put("more", "n", WHOLE, 3)), Put("more", "n", WHOLE, 3)], 2),
            ([Part("more", "n", "h", "l", 4), Turned(Part("more", "n", "h", "l", 4))], 0),
            ([Turned(join), join], 0),
            ([Split("main", "w", "/"), Turned(Split("main", "w", "/"))], 0),
            ([Turned(Split("main", "t", "/")), Split("main", "t", "/")], 0),
            ([Rows("l", "side"), Turned(Rows("l", "side"))], 0),
            ([Turned(Rows("z", "rows")), Rows("z", "rows")], 0),
            ([Cleave("side", ["k", "n"]), Turned(Cleave("side", ["k", "n"]))], 0),
            ([Turned(Cleave("hi", ["h", "i"])), Cleave("hi", ["h", "i"])], 0),
            ([Shift("more", "n", 3), Shift("more", "n", -1)], 1),
            ([Shift("more", "n", 3), Turned(Shift("more", "n", 3))], 0),
            ([Shift("main", "n", 0), Renumber(1, 0, SIZE), Renumber(1, SIZE, SIZE)], 0),
            ([Renumber(2, 1, SIZE), Renumber(4, 5, SIZE)], 1),
            ([Renumber(2, 1, SIZE), Turned(Renumber(2, 1, SIZE))], 0),
            ([Rename("more", "n", "m"), Rename("more", "m", "o")], 1),
            ([Rename("more", "n", "m"), Rename("more", "m", "n")], 0),
            ([put, Rename("more", "p", "q")], 1),
            ([Rename("more", "n", "m"), Turned(Put("more", "m", WHOLE, 3))], 1),
            ([put, Rename("more", "p", "q"), Turned(Put("more", "q", WHOLE, 3))], 0),
            ([put, Rename("more", "p", "q"), Turned(Put("more", "q", WHOLE, 4))], 2),
            ([Shift("more", "n", 1), cap, Turned(cap), Shift("more", "n", -1)], 4),
            ([Turned(Chain([Turned(put), Turned(cap), Renumber(2, 1, SIZE)])), Turned(put)], 2),
            ([Chain([put, Chain([cap]), Turned(Chain([put, cap]))])], 4),
        ]

    def test_alike(self):
        chance = random.Random(591)
        for moves, many in self.lists():
            with self.subTest(moves=[move.words() for move in moves]):
                other = self.does_alike(chance, moves, self.form())
                self.assertEqual(len(other.moves), many)
                for count in range(6):
                    self.read_alike(chance, Chain(moves), other, self.form())

    def test_pairs_that_have_to_stay(self):
        # Were these two taken together, the one program would not see what the other one wrote.
        cap = Cap("main", "n", 2)
        old = form_of(9, [("main", "head", {"n": WHOLE})])
        ends = Ends(Chain([cap, Turned(cap)]), old, {"main": [{"n": 5}]})
        ends.write_new({"main": [{"n": 7}]})
        self.same(ends.read_old(), {"main": [{"n": 5}]})
        put = Put("main", "n", WHOLE, 3)
        ends = Ends(Chain([Turned(put), put]), old, {"main": [{"n": 5}]})
        self.same(ends.read_new(), {"main": [{"n": 3}]})
        ends.write_new({"main": [{"n": 7}]})
        self.same(ends.read_old(), {"main": [{"n": 5}]})


if __name__ == "__main__":
    unittest.main()
