"""Points 45 to 48, and 49 for their words: Turned and Chain."""

import random
import unittest
from copy import deepcopy

from halfmoved.chains import Chain, Turned
from halfmoved.errors import NoMove
from halfmoved.forms import form_of, with_table
from halfmoved.moves import Cap, Move, Put, Rename
from halfmoved.parts import Part, Split
from halfmoved.renumber import Renumber
from halfmoved.sides import Cleave, Rows
from halfmoved.turns import Shift, Turn
from test_move_case import MoveCase, exact, scribble
from test_move_laws import NAMES, SIZE, TABLES, VALUES, LawCase, random_form, random_piece

WHOLE = ("whole",)
WORD = ("word",)


def number_form(**columns):
    return form_of(SIZE, [("main", "head", columns), ("more", "many", columns)])


def mirrored():
    # A move whose words are None, though the ways lead one to one.
    return Turn("main", "b", ("below", 4), ("below", 4), lambda value: 3 - value, lambda value: 3 - value)


def some_moves():
    # Each with an old form that it fits: moves with a left rest, with a right one, with both, and with none.
    numbers = number_form(n=WHOLE)
    return [
        (Move(), numbers),
        (Put("more", "p", WHOLE, 7), numbers),
        (Cap("more", "n", 2), numbers),
        (Rename("main", "n", "m"), numbers),
        (Part("more", "n", "h", "l", 4), numbers),
        (Split("main", "w", "/"), number_form(w=WORD)),
        (mirrored(), number_form(b=("below", 4))),
        (Shift("more", "n", -5), numbers),
        (Renumber(4, 3, SIZE), number_form(k=("key",), n=WHOLE)),
        (Rows("t", "side"), form_of(SIZE, [("main", "head", {"t": ("list", WHOLE)})])),
        (Cleave("side", ["n"]), numbers),
        (Chain([]), numbers),
        (Chain([Put("more", "p", WHOLE, 7), Cap("more", "n", 2)]), numbers),
        (Chain([Cap("more", "n", 2), Put("main", "p", WORD, "a"), Renumber(2, 5, SIZE)]), numbers),
        (Chain([Chain([Cap("main", "n", 2)]), Turned(Put("more", "n", WHOLE, 1))]), numbers),
    ]


def refusal(ask, form):
    try:
        ask(form)
    except NoMove as error:
        return error.move
    return None


class TestInterface(unittest.TestCase):
    def test_bases(self):
        self.assertEqual(Turned.__bases__, (Move,))
        self.assertEqual(Chain.__bases__, (Move,))

    def test_arguments_by_name(self):
        form = number_form(n=WHOLE)
        piece = {"main": [{"n": 1}], "more": []}
        for move in (Turned(move=Rename("main", "m", "n")), Chain(moves=[Rename("main", "n", "m")])):
            new = move.after(form=form)
            self.assertEqual(move.before(form=new), form)
            left = move.left(form=form, piece=piece, rest=None)
            came, right = move.forth(form=form, piece=piece, rest=left)
            self.assertEqual(came, {"main": [{"m": 1}], "more": []})
            self.assertEqual(move.right(form=new, piece=came, rest=right), right)
            self.assertEqual(move.back(form=new, piece=came, rest=right), (piece, left))
            self.assertEqual((move.key_forth(key=3), move.key_back(key=3)), (3, 3))


class TestTurned(LawCase):
    def test_forms(self):
        for move, old in some_moves():
            new = move.after(old)
            self.leads(Turned(move), new, old)

    def test_forms_that_do_not_fit(self):
        others = [number_form(q=("key",)), form_of(SIZE + 1, [("other", "head", {})])]
        for move, old in some_moves():
            for form in others + [old, move.after(old)]:
                self.same(refusal(Turned(move).after, form), refusal(move.before, form))
                self.same(refusal(Turned(move).before, form), refusal(move.after, form))
                self.same(refusal(Turned(Turned(move)).after, form), refusal(move.after, form))
        self.no_old(Turned(Rename("main", "n", "m")), number_form(n=WHOLE))
        self.no_new(Turned(Rename("main", "n", "m")), number_form(m=WHOLE))

    def test_the_number_of_a_chains_refusal(self):
        chain = Chain([Rename("main", "a", "b"), Rename("main", "b", "c"), Rename("main", "c", "d")])
        for form, after, before in (
            (number_form(a=WHOLE, c=WORD), 1, 2), (number_form(b=WHOLE), 0, 2), (number_form(d=WHOLE, b=WHOLE), 0, 1),
            (number_form(a=WHOLE, d=WHOLE), 2, 0),
        ):
            self.same((refusal(chain.after, form), refusal(chain.before, form)), (after, before))
            self.same((refusal(Turned(chain).after, form), refusal(Turned(chain).before, form)), (before, after))
            twice = Turned(Turned(chain))
            self.same((refusal(twice.after, form), refusal(twice.before, form)), (after, before))

    def test_pieces_and_rests(self):
        chance = random.Random(45)
        for move, old in some_moves():
            new = move.after(old)
            for count in range(6):
                self.answers_of(move, old, random_piece(chance, old), random_piece(chance, old))
                self.answers_of(Turned(move), new, random_piece(chance, new), random_piece(chance, new))

    def answers_of(self, move, old, piece, other):
        # The piece goes forth and comes back, with no earlier rest and with that of another one.
        turned = Turned(move)
        new = move.after(old)
        self.same(turned.right(old, deepcopy(piece)), move.left(old, piece))
        for earlier in (None, move.left(old, other)):
            left = move.left(old, piece, earlier)
            self.tells(turned.right, old, piece, earlier, left)
            came, right = move.forth(old, piece, left)
            self.tells(turned.back, old, piece, left, (came, right))
            self.tells(turned.forth, new, came, right, (piece, left))
        self.same(turned.left(new, deepcopy(came)), move.right(new, came))
        for earlier in (None, right, move.forth(old, other, move.left(old, other))[1]):
            self.tells(turned.left, new, came, earlier, move.right(new, came, earlier))

    def test_a_put_turned_round(self):
        move = Turned(Put("more", "p", WHOLE, 7))
        old = form_of(9, [("main", "head", {}), ("more", "many", {"p": WHOLE, "w": WORD})])
        piece = {"main": [{}], "more": [{"p": 7, "w": "a"}, {"p": 8, "w": ""}]}
        came = {"main": [{}], "more": [{"w": "a"}, {"w": ""}]}
        self.goes(move, old, piece, None, came, [7, 8])
        longer = {"main": [{}], "more": [{"w": "x"}, {"w": "y"}, {"w": "z"}]}
        self.rest_given(move.right, move.after(old), longer, [1, 8], [1, 8, 7])
        self.fresh_rest(move.right, move.after(old), longer, [7, 7, 7])
        self.fresh_rest(move.left, old, piece, None)

    def test_a_cap_turned_round(self):
        move = Turned(Cap("main", "n", 5))
        old = form_of(9, [("main", "head", {"n": ("upto", 5)})])
        self.goes(move, old, {"main": [{"n": 5}]}, [9], {"main": [{"n": 9}]}, None)
        self.goes(move, old, {"main": [{"n": 5}]}, [None], {"main": [{"n": 5}]}, None)
        self.rest_given(move.left, old, {"main": [{"n": 4}]}, [9], [None])
        self.rest_given(move.left, old, {"main": [{"n": 5}]}, [9], [9])

    def test_keys(self):
        move = Renumber(4, 3, SIZE)
        for key in range(SIZE):
            self.same(Turned(move).key_forth(key), move.key_back(key))
            self.same(Turned(move).key_back(key), move.key_forth(key))
            self.same(Turned(Turned(move)).key_forth(key), move.key_forth(key))
        self.same(Turned(move).key_forth(3), 0)
        self.same(Turned(move).key_back(0), 3)
        self.leaves_keys(Turned(Put("main", "p", WHOLE, 0)))

    def test_what_it_keeps(self):
        self.keeps(Turned(Put("main", "p", WHOLE, 0)), False, True)
        self.keeps(Turned(Cap("main", "p", 0)), True, False)
        self.keeps(Turned(Rename("main", "a", "b")), True, True)
        self.keeps(Turned(Chain([Put("main", "p", WHOLE, 0), Cap("main", "p", 0)])), False, False)
        for move, old in some_moves():
            self.keeps(Turned(move), move.keeps_back(), move.keeps_forth())
            self.keeps(Turned(Turned(move)), move.keeps_forth(), move.keeps_back())

    def test_words(self):
        self.words_are(Turned(Cap("main", "n", 5)), ("back", ("cap", "main", "n", 5)))
        self.words_are(Turned(Turned(Cap("main", "n", 5))), ("back", ("back", ("cap", "main", "n", 5))))
        self.words_are(Turned(Cleave("s", ["b", "a"])), ("back", ("cleave", "s", ("a", "b"))))
        self.words_are(Turned(Chain([])), ("back", ("chain", ())))
        for move in (Move(), mirrored(), Turned(Move()), Chain([Shift("a", "b", 1), mirrored()])):
            self.assertIsNone(Turned(move).words())

    def test_turned_twice(self):
        chance = random.Random(46)
        for move, old in some_moves():
            new = move.after(old)
            twice = Turned(Turned(move))
            self.leads(twice, old, new)
            piece = random_piece(chance, old)
            left = move.left(old, piece)
            came, right = move.forth(old, piece, left)
            self.goes(twice, old, piece, left, came, right)

    def test_laws(self):
        chance = random.Random(47)
        for move, old in some_moves():
            for count in range(10):
                self.keeps_the_laws(chance, Turned(move), move.after(old))
                self.keeps_the_laws(chance, Turned(Turned(move)), old)


class TestChainForms(MoveCase):
    def test_no_moves(self):
        for move, old in some_moves():
            self.leads(Chain([]), old, old)

    def test_one_move(self):
        for move, old in some_moves():
            self.leads(Chain([move]), old, move.after(old))

    def test_one_behind_the_other(self):
        moves = [
            Rename("main", "a", "b"), Part("main", "b", "b", "c", 10), Cap("main", "b", 5), Put("main", "a", ("list", WORD), ("x",)),
            Rows("a", "side"), Cleave("twin", ["c"]),
        ]
        new = form_of(9, [("main", "head", {"b": ("upto", 5)}), ("side", "many", {"a": WORD}), ("twin", "twin", {"c": ("below", 10)})])
        old = form_of(9, [("main", "head", {"a": WHOLE})])
        self.leads(Chain(moves), old, new)
        self.leads(Chain([Chain(moves[:2]), Chain([]), Chain([Chain(moves[2:])])]), old, new)
        self.leads(Chain([Turned(move) for move in reversed(moves)]), new, old)

    def refuses(self, ask, form, number):
        with self.assertRaises(NoMove) as caught:
            ask(form)
        self.assertIs(type(caught.exception), NoMove)
        self.same(caught.exception.move, number)

    def test_the_first_that_does_not_fit_an_old_form(self):
        steps = [Rename("main", "a", "b"), Rename("main", "b", "c"), Rename("main", "c", "d")]
        chain = Chain(steps)
        self.refuses(chain.after, number_form(x=WHOLE), 0)
        self.refuses(chain.after, number_form(a=WHOLE, b=WHOLE), 0)
        self.refuses(chain.after, number_form(a=WHOLE, c=WHOLE), 1)
        self.refuses(chain.after, number_form(a=WHOLE, d=WHOLE), 2)
        # Both the second and the third do not fit, or the first as well.
        self.refuses(chain.after, number_form(a=WHOLE, c=WHOLE, d=WHOLE), 1)
        self.refuses(chain.after, number_form(b=WHOLE, c=WHOLE, d=WHOLE), 0)
        for number in range(8):
            moves = [Shift("main", "a", 1)] * 8
            moves[number] = Shift("main", "z", 1)
            self.refuses(Chain(moves).after, number_form(a=WHOLE), number)

    def test_the_first_that_does_not_fit_a_new_form(self):
        chain = Chain([Rename("main", "a", "b"), Rename("main", "b", "c"), Rename("main", "c", "d")])
        self.refuses(chain.before, number_form(x=WHOLE), 2)
        self.refuses(chain.before, number_form(d=WHOLE, c=WHOLE), 2)
        self.refuses(chain.before, number_form(d=WHOLE, b=WHOLE), 1)
        self.refuses(chain.before, number_form(d=WHOLE, a=WHOLE), 0)
        self.refuses(chain.before, number_form(d=WHOLE, a=WHOLE, b=WHOLE), 1)
        for number in range(8):
            moves = [Shift("main", "a", 1)] * 8
            moves[number] = Shift("main", "z", 1)
            self.refuses(Chain(moves).before, number_form(a=WHOLE), number)
            two = list(moves)
            two[7] = Shift("main", "y", 1)
            self.refuses(Chain(two).before, number_form(a=WHOLE), 7)
            two[0] = Shift("main", "y", 1)
            self.refuses(Chain(two).after, number_form(a=WHOLE), 0)

    def test_chains_within_chains(self):
        fine = Shift("main", "a", 1)
        wrong = Shift("main", "z", 1)
        form = number_form(a=WHOLE)
        for number, moves in (
            (0, [Chain([fine, fine, wrong]), fine]), (1, [fine, Chain([wrong]), wrong]), (2, [fine, fine, Chain([fine, Chain([fine, wrong])])]),
            (1, [Chain([]), Chain([Chain([Chain([fine, fine, fine, wrong])])]), fine]), (2, [Chain([fine, fine]), Chain([fine, fine]), wrong]),
            (1, [fine, Turned(Chain([wrong, fine, fine])), fine]), (1, [fine, Chain([Turned(Chain([fine, wrong]))])]),
        ):
            self.refuses(Chain(moves).after, form, number)
            self.refuses(Turned(Chain(moves)).before, form, number)
            self.refuses(Chain(list(reversed(moves))).before, form, len(moves) - 1 - number)

    def test_a_chain_turned_within_a_chain(self):
        # The turned chain is looked through from its last move on, but the outer one's number is told.
        inner = Chain([Rename("main", "a", "b"), Rename("main", "b", "c")])
        chain = Chain([Move(), Turned(inner)])
        self.refuses(inner.before, number_form(c=WHOLE, a=WHOLE), 0)
        self.refuses(chain.after, number_form(c=WHOLE, a=WHOLE), 1)
        self.refuses(Turned(chain).before, number_form(c=WHOLE, a=WHOLE), 1)
        self.leads(chain, number_form(c=WHOLE), form_of(SIZE, [("main", "head", {"a": WHOLE}), ("more", "many", {"c": WHOLE})]))

    def test_sizes(self):
        self.refuses(Chain([Renumber(1, 0, SIZE), Renumber(1, 0, SIZE + 1)]).after, number_form(), 1)
        self.refuses(Chain([Renumber(1, 0, SIZE), Renumber(1, 0, SIZE + 1)]).before, number_form(), 1)
        self.refuses(Chain([Renumber(3, 0, SIZE), Renumber(1, 0, SIZE)]).before, number_form(), 0)

    def test_what_is_refused_changes_nothing(self):
        chain = Chain([Rename("main", "a", "b"), Rename("main", "b", "c")])
        self.refuses(chain.after, number_form(a=WHOLE, c=WHOLE), 1)
        new = form_of(SIZE, [("main", "head", {"c": WHOLE}), ("more", "many", {"a": WHOLE})])
        self.leads(chain, number_form(a=WHOLE), new)


class TestChainPieces(LawCase):
    def test_no_moves(self):
        chance = random.Random(46)
        for move, old in some_moves():
            piece = random_piece(chance, old)
            self.goes(Chain([]), old, piece, [], piece, [])
            self.fresh_rest(Chain([]).left, old, piece, [])
            self.fresh_rest(Chain([]).right, old, piece, [])

    def test_no_moves_tell_new_pieces(self):
        form = number_form(n=WHOLE)
        piece = {"main": [{"n": 1}], "more": [{"n": 2}]}
        for told in (Chain([]).forth(form, piece, [])[0], Chain([]).back(form, piece, [])[0]):
            self.assertIsNot(told, piece)
            self.assertIsNot(told["more"], piece["more"])
            self.assertIsNot(told["more"][0], piece["more"][0])

    def test_one_move(self):
        chance = random.Random(47)
        for move, old in some_moves():
            for count in range(5):
                piece = random_piece(chance, old)
                left = move.left(old, piece)
                came, right = move.forth(old, piece, left)
                self.goes(Chain([move]), old, piece, [left], came, [right])

    def test_rests_are_lists_in_the_order_of_the_moves(self):
        old = form_of(9, [("main", "head", {"n": WHOLE}), ("more", "many", {"n": WHOLE})])
        chain = Chain([Put("more", "p", WHOLE, 7), Cap("main", "n", 5), Rename("more", "n", "m"), Put("main", "q", WORD, "a"), Cap("more", "m", 3)])
        piece = {"main": [{"n": 8}], "more": [{"n": 1}, {"n": 4}]}
        came = {"main": [{"n": 5, "q": "z"}], "more": [{"m": 1, "p": 7}, {"m": 3, "p": -1}]}
        self.goes(chain, old, piece, [[7, -1], None, None, ["z"], None], came, [None, [8], None, None, [None, 4]])
        self.fresh_rest(chain.left, old, piece, [[7, 7], None, None, ["a"], None])
        self.fresh_rest(chain.right, chain.after(old), came, [None, [None], None, None, [None, None]])

    def test_each_move_takes_the_piece_that_the_one_ahead_gave(self):
        # What the earlier moves made of the piece decides on the rests of the later ones.
        old = form_of(9, [("main", "head", {"t": ("list", WHOLE)})])
        chain = Chain([Rows("t", "side"), Shift("side", "t", 10), Cap("side", "t", 12), Put("side", "p", WORD, "x")])
        piece = {"main": [{"t": (1, 2, 3)}]}
        came = {"main": [{}], "side": [{"p": "x", "t": 11}, {"p": "x", "t": 12}, {"p": "x", "t": 12}]}
        self.goes(chain, old, piece, [None, None, None, ["x", "x", "x"]], came, [None, None, [None, None, 13], None])
        self.fresh_rest(chain.left, old, piece, [None, None, None, ["x", "x", "x"]])
        self.rest_given(chain.left, old, {"main": [{"t": (5,)}]}, [None, None, None, ["a", "b"]], [None, None, None, ["a"]])
        self.rest_given(chain.left, old, {"main": [{"t": ()}]}, [None, None, None, ["a"]], [None, None, None, []])
        self.rest_given(chain.left, old, piece, [None, None, None, ["a"]], [None, None, None, ["a", "x", "x"]])

    def test_the_rest_of_a_move_whose_piece_the_one_ahead_shaped(self):
        # The second cap's rest hangs on the number that the first one's rest gives back, and so on.
        chain = Chain([Turned(Cap("main", "n", 5)), Cap("main", "n", 7)])
        old = form_of(9, [("main", "head", {"n": ("upto", 5)})])
        self.goes(chain, old, {"main": [{"n": 5}]}, [[9], None], {"main": [{"n": 7}]}, [None, [9]])
        self.rest_given(chain.right, chain.after(old), {"main": [{"n": 7}]}, [None, [9]], [None, [9]])
        self.rest_given(chain.right, chain.after(old), {"main": [{"n": 6}]}, [None, [9]], [None, [None]])
        self.rest_given(chain.left, old, {"main": [{"n": 4}]}, [[9], None], [[None], None])
        self.fresh_rest(chain.left, old, {"main": [{"n": 5}]}, [[None], None])

    def test_right_from_the_last_move_on(self):
        chain = Chain([Shift("main", "n", 2), Cap("main", "n", 5), Turned(Put("main", "p", WHOLE, 0))])
        old = form_of(9, [("main", "head", {"n": WHOLE, "p": WHOLE})])
        new = chain.after(old)
        self.goes(chain, old, {"main": [{"n": 4, "p": 6}]}, [None, None, None], {"main": [{"n": 5}]}, [None, [6], [6]])
        self.rest_given(chain.right, new, {"main": [{"n": 5}]}, [None, [6], [8]], [None, [6], [8]])
        self.rest_given(chain.right, new, {"main": [{"n": 4}]}, [None, [6], [8]], [None, [None], [8]])
        self.fresh_rest(chain.right, new, {"main": [{"n": 5}]}, [None, [None], [0]])

    def test_chains_within_chains(self):
        old = form_of(9, [("main", "head", {"n": WHOLE})])
        chain = Chain([Chain([Put("main", "p", WHOLE, 1), Chain([])]), Chain([Chain([Cap("main", "n", 5)])]), Move()])
        piece = {"main": [{"n": 6}]}
        self.goes(chain, old, piece, [[[2], []], [[None]], None], {"main": [{"n": 5, "p": 2}]}, [[None, []], [[[6]]], None])
        self.fresh_rest(chain.left, old, piece, [[[1], []], [[None]], None])
        self.rest_given(chain.left, old, piece, [[[3], []], [[None]], None], [[[3], []], [[None]], None])
        turned = Turned(chain)
        self.goes(turned, chain.after(old), {"main": [{"n": 5, "p": 2}]}, [[None, []], [[[6]]], None], piece, [[[2], []], [[None]], None])

    def test_keys(self):
        one = Renumber(4, 3, SIZE)
        other = Renumber(2, -1, SIZE)
        chain = Chain([one, other])
        for key in range(SIZE):
            self.same(chain.key_forth(key), other.key_forth(one.key_forth(key)))
            self.same(chain.key_back(key), one.key_back(other.key_back(key)))
            self.same(Chain([chain, Turned(chain)]).key_forth(key), key)
            self.same(Chain([one, Shift("main", "n", 1), Turned(other)]).key_forth(key), other.key_back(one.key_forth(key)))
        self.same(chain.key_forth(0), 5)
        self.same(chain.key_back(5), 0)
        self.leaves_keys(Chain([]))

    def test_pointers(self):
        old = form_of(SIZE, [("main", "head", {"k": ("key",)})])
        chain = Chain([Renumber(4, 3, SIZE), Cleave("side", ["k"]), Renumber(2, -1, SIZE)])
        for key in list(range(SIZE)) + [None]:
            led = None if key is None else chain.key_forth(key)
            self.goes(chain, old, {"main": [{"k": key}]}, [None] * 3, {"main": [{}], "side": [{"k": led}]}, [None] * 3)

    def test_what_it_keeps(self):
        put = Put("main", "p", WHOLE, 0)
        cap = Cap("main", "n", 5)
        shift = Shift("main", "n", 5)
        for moves, forth, back in (
            ([], True, True), ([shift], True, True), ([put], True, False), ([cap], False, True), ([put, cap], False, False),
            ([cap, put], False, False), ([shift, shift, put], True, False), ([put, shift, shift], True, False),
            ([shift, cap, shift], False, True), ([Turned(put)], False, True), ([Turned(cap), put], True, False),
            ([Chain([put]), Chain([shift])], True, False), ([Chain([Chain([cap])]), Turned(Chain([put]))], False, True),
        ):
            self.keeps(Chain(moves), forth, back)

    def test_words(self):
        self.words_are(Chain([]), ("chain", ()))
        self.words_are(Chain([Shift("a", "b", 1)]), ("chain", (("shift", "a", "b", 1),)))
        chain = Chain([Rows("t", "s"), Turned(Cap("a", "b", 2)), Chain([Chain([]), Renumber(11, -1, 10)])])
        words = ("chain", (("rows", "t", "s"), ("back", ("cap", "a", "b", 2)), ("chain", (("chain", ()), ("renumber", 1, 9, 10)))))
        self.words_are(chain, words)
        self.words_are(Turned(chain), ("back", words))

    def test_words_where_a_move_within_has_none(self):
        shift = Shift("a", "b", 1)
        for moves in (
            [Move()], [mirrored()], [shift, Move()], [Move(), shift], [shift, Turned(Move()), shift], [shift, Chain([shift, Chain([mirrored()])])],
            [Turned(Chain([Move()]))],
        ):
            self.assertIsNone(Chain(moves).words())
            self.assertIsNone(Turned(Chain(moves)).words())


class TestChainIsItsOwn(MoveCase):
    def test_changes_to_the_list_handed_in(self):
        moves = [Shift("main", "n", 1), Shift("main", "n", 10)]
        chain = Chain(moves)
        self.assertEqual(len(moves), 2)
        moves.reverse()
        moves.append(Move())
        form = form_of(9, [("main", "head", {"n": WHOLE})])
        self.words_are(chain, ("chain", (("shift", "main", "n", 1), ("shift", "main", "n", 10))))
        self.goes(chain, form, {"main": [{"n": 1}]}, [None, None], {"main": [{"n": 12}]}, [None, None])
        moves.clear()
        self.same(chain.left(form, {"main": [{"n": 1}]}), [None, None])

    def test_the_list_handed_in_stays(self):
        moves = [Put("main", "p", WHOLE, 1), Cap("main", "n", 5)]
        kept = list(moves)
        chain = Chain(moves)
        form = form_of(9, [("main", "head", {"n": WHOLE})])
        piece = {"main": [{"n": 6}]}
        came, right = chain.forth(form, piece, chain.left(form, piece))
        chain.back(chain.after(form), came, chain.right(chain.after(form), came, right))
        chain.words()
        self.assertEqual(moves, kept)

    def test_changes_to_what_was_told(self):
        form = form_of(9, [("main", "head", {"n": WHOLE}), ("more", "many", {"n": WHOLE})])
        chain = Chain([Chain([Put("more", "p", WHOLE, 1)]), Cap("more", "n", 5), Chain([])])
        piece = {"main": [{"n": 6}], "more": [{"n": 6}, {"n": 2}]}
        left = chain.left(form, piece)
        before = exact((piece, left))
        told = chain.forth(form, piece, left)
        wanted = exact(told)
        scribble(told)
        scribble(chain.left(form, piece, left))
        self.assertEqual(exact((piece, left)), before)
        self.assertEqual(exact(chain.forth(form, piece, left)), wanted)


def random_move(chance, form):
    # A move by chance, of a table and a column that are mostly there; often it does not fit.
    table, sort, columns = chance.choice(form[1])
    names = [name for name, kind in columns] or ["p"]
    column = chance.choice(names)
    kind = chance.choice([kind for kind in VALUES if kind[0] not in ("key", "once")])
    side = chance.choice(TABLES + ["side", "yy"])
    return chance.choice([
        Put(table, chance.choice(NAMES), kind, chance.choice(VALUES[kind])), Cap(table, column, 2), Rename(table, column, chance.choice(NAMES)),
        Part(table, column, chance.choice(NAMES), chance.choice(NAMES), 4), Split(table, column, "/"), Shift(table, column, chance.randrange(-3, 4)),
        Renumber(chance.choice([2, 4, 5]), chance.randrange(SIZE), SIZE), Rows(column, side), Cleave(side, chance.sample(names, chance.randrange(2))),
        Move(),
    ])


def fitting_move(chance, form, deep):
    # By chance turned round, or a chain of its own.
    while True:
        if deep > 0 and chance.randrange(5) == 0:
            move = Chain(random_moves(chance, form, deep - 1, 3))
        else:
            move = random_move(chance, form)
        if chance.randrange(3) == 0:
            move = Turned(move)
        try:
            after = move.after(form)
        except NoMove:
            continue
        if all(kind in VALUES for name, sort, columns in after[1] for column, kind in columns):
            return move


def random_moves(chance, form, deep, most):
    # Each fits the form to which those ahead of it lead.
    moves = []
    for count in range(chance.randrange(most + 1)):
        moves.append(fitting_move(chance, form, deep))
        form = moves[-1].after(form)
    return moves


class TwoBehindEachOther(Move):
    # Points 46 to 48 for two moves, in the plainest way: a chain of several is one move and the chain of the others.
    def __init__(self, one, other):
        self.one = one
        self.other = other

    def after(self, form):
        return self.other.after(self.one.after(form))

    def before(self, form):
        return self.one.before(self.other.before(form))

    def forth(self, form, piece, rest):
        between, first = self.one.forth(form, piece, rest[0])
        came, others = self.other.forth(self.one.after(form), between, rest[1:])
        return (came, [first] + others)

    def back(self, form, piece, rest):
        between, others = self.other.back(form, piece, rest[1:])
        came, first = self.one.back(self.other.before(form), between, rest[0])
        return (came, [first] + others)

    def left(self, form, piece, rest=None):
        first = self.one.left(form, piece, None if rest is None else rest[0])
        between = self.one.forth(form, piece, first)[0]
        return [first] + self.other.left(self.one.after(form), between, None if rest is None else rest[1:])

    def right(self, form, piece, rest=None):
        others = self.other.right(form, piece, None if rest is None else rest[1:])
        between = self.other.back(form, piece, others)[0]
        return [self.one.right(self.other.before(form), between, None if rest is None else rest[0])] + others


class NoneBehindEachOther(Move):
    def forth(self, form, piece, rest):
        return (deepcopy(piece), [])

    def back(self, form, piece, rest):
        return (deepcopy(piece), [])

    def left(self, form, piece, rest=None):
        return []

    def right(self, form, piece, rest=None):
        return []


def plainest(moves):
    chain = NoneBehindEachOther()
    for move in reversed(moves):
        chain = TwoBehindEachOther(move, chain)
    return chain


class TestRandomChains(LawCase):
    def test_laws(self):
        chance = random.Random(48)
        for turn in range(150):
            old = random_form(chance, "main", {})
            chain = Chain(random_moves(chance, old, 2, 6))
            self.keeps_the_laws(chance, chain, old)
            self.keeps_the_laws(chance, Turned(chain), chain.after(old))

    def test_against_the_plainest_chain(self):
        chance = random.Random(49)
        for turn in range(150):
            old = random_form(chance, "main", {})
            moves = random_moves(chance, old, 2, 6)
            chain = Chain(moves)
            model = plainest(moves)
            new = model.after(old)
            self.leads(chain, old, new)
            self.same(model.before(new), old)
            olds = [random_piece(chance, old) for count in range(3)]
            news = [random_piece(chance, new) for count in range(3)]
            for piece in olds:
                earlier = self.earlier_left(chance, model, old, new, olds, news)
                left = model.left(old, piece, earlier)
                self.tells(chain.left, old, piece, earlier, left)
                self.tells(chain.forth, old, piece, left, model.forth(old, piece, left))
            for piece in news:
                earlier = self.earlier_right(chance, model, old, new, olds, news)
                right = model.right(new, piece, earlier)
                self.tells(chain.right, new, piece, earlier, right)
                self.tells(chain.back, new, piece, right, model.back(new, piece, right))

    def test_six_deep(self):
        old = form_of(9, [("main", "head", {"n": WHOLE})])
        move = Chain([Put("main", "p", WHOLE, 1), Cap("main", "n", 5), Shift("main", "p", 2)])
        left = [[4], None, None]
        right = [None, [6], None]
        for depth in range(6):
            move = Chain([Turned(Turned(move))])
            left = [left]
            right = [right]
        self.goes(move, old, {"main": [{"n": 6}]}, left, {"main": [{"n": 5, "p": 6}]}, right)

    def test_tables_that_come_and_go(self):
        old = form_of(9, [("main", "head", {"t": ("some", WORD)})])
        chain = Chain([Rows("t", "side"), Turned(Rows("t", "side")), Cleave("side", ["t"]), Turned(Cleave("side", ["t"])), Cleave("side", [])])
        new = with_table(old, "side", "twin", {})
        self.leads(chain, old, new)
        self.goes(chain, old, {"main": [{"t": ("a", "")}]}, [None] * 5, {"main": [{"t": ("a", "")}], "side": [{}]}, [None] * 5)


if __name__ == "__main__":
    unittest.main()
