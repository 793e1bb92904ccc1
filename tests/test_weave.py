"""Points 70 to 78: the weave, worked out by hand."""

import unittest
from copy import deepcopy

from halfmoved.chains import Chain, Turned
from halfmoved.errors import BadRow, Gap, Lone, Missing, NoForm, NoMove, NoTable, Nowhere, StepError, Taken, Twice
from halfmoved.forms import form_of, tables_of
from halfmoved.moves import Cap, Move, Put, Rename
from halfmoved.parts import Part, Split
from halfmoved.plain import Plain
from halfmoved.renumber import Renumber
from halfmoved.sides import Cleave, Rows
from halfmoved.turns import Shift, Turn
from halfmoved.weave import Weave
from test_move_case import MoveCase, exact, scribble

WHOLE = ("whole",)
WORD = ("word",)
SIZE = 10
FORM = form_of(SIZE, [("main", "head", {"n": WHOLE, "k": ("key",), "o": ("once", WHOLE)}), ("more", "many", {"n": WHOLE})])
NUMBERS = form_of(SIZE, [("main", "head", {"n": WHOLE})])
ROWS = form_of(SIZE, [("main", "head", {}), ("more", "many", {"n": WHOLE})])


def thing(n, o, *more, k=None):
    return {"main": [{"n": n, "k": k, "o": o}], "more": [{"n": value} for value in more]}


def number(value):
    return {"main": [{"n": value}]}


def rows(*values):
    return {"main": [{}], "more": [{"n": value} for value in values]}


def things():
    return {2: thing(5, 0, 8, 12), 0: thing(-1, 1), 9: thing(20, 2, 11, k=2)}


def weave_of(form, pieces, *moves):
    weave = Weave(form, pieces)
    for move in moves:
        weave.behind(move)
    return weave


def set_number(key, value):
    return ("set", "main", key, 0, {"n": value})


def set_row(key, place, value):
    return ("set", "more", key, place, {"n": value})


class WeaveCase(MoveCase):
    def refuses(self, error, ask, *handed):
        with self.assertRaises(error) as caught:
            ask(*handed)
        self.assertIs(type(caught.exception), error)
        return caught.exception

    def refuses_step(self, error, spot, ask, *handed):
        caught = self.refuses(error, ask, *handed)
        self.same((caught.table, caught.key, caught.place), spot)

    def answer(self, ask, *handed):
        try:
            return ask(*handed)
        except StepError as error:
            return (type(error).__name__, error.table, error.key, error.place)

    def state(self, weave):
        # All that is told of a weave.
        told = []
        for n in range(weave.many_forms()):
            form = weave.form_at(n)
            told.append((form, weave.held(n), [weave.rows(n, table) for table in tables_of(form)]))
        for root in weave.held(0):
            told.append(weave.lies(root))
        return told

    def lies(self, weave, root, position, piece, rests):
        self.same(weave.lies(root), (position, piece, rests))

    def changes_nothing(self, weave, error, ask, *handed):
        before = exact(self.state(weave))
        caught = self.refuses(error, ask, *handed)
        self.assertEqual(exact(self.state(weave)), before)
        return caught


class TestBegin(WeaveCase):
    def test_without_things(self):
        for weave in (Weave(FORM), Weave(FORM, None), Weave(FORM, {}), Weave(form=FORM, things=None)):
            self.same(weave.many_forms(), 1)
            self.same(weave.form_at(0), FORM)
            self.same(weave.held(0), [])
            self.same(weave.rows(0, "main"), [])

    def test_with_things(self):
        weave = Weave(FORM, things())
        self.same(weave.held(0), [0, 2, 9])
        for key, piece in things().items():
            self.same(weave.piece(0, key), piece)
            self.lies(weave, key, 0, piece, [])

    def test_its_class(self):
        self.assertEqual(Weave.__bases__, (object,))

    def test_refused_as_a_plain_table_refuses(self):
        twice = {3: thing(1, 7), 1: thing(1, 7), 5: thing(1, 7)}
        self.refuses_step(Twice, ("main", 3, 0), Weave, FORM, twice)
        nowhere = {3: thing(1, 7, k=4), 1: thing(1, 8, k=3)}
        self.refuses_step(Nowhere, ("main", 3, 0), Weave, FORM, nowhere)
        both = {3: thing(1, 7, k=4), 1: thing(1, 7, k=3)}
        self.refuses_step(Twice, ("main", 3, 0), Weave, FORM, both)
        for pieces in (twice, nowhere, both):
            self.same(self.answer(Weave, FORM, pieces), self.answer(Plain, FORM, pieces))

    def test_what_was_handed_in_stays_and_is_its_own(self):
        handed = things()
        weave = Weave(FORM, handed)
        weave.behind(Put("main", "p", WHOLE, 1))
        weave.write(0, [set_row(2, 0, 99)])
        self.same(handed, things())
        before = exact(self.state(weave))
        scribble(handed)
        self.assertEqual(exact(self.state(weave)), before)


class TestForms(WeaveCase):
    def test_moves_behind(self):
        weave = Weave(FORM, things())
        moves = [Put("main", "p", WHOLE, 1), Rename("main", "p", "q"), Chain([]), Turned(Put("main", "q", WHOLE, 3))]
        form = FORM
        for place, move in enumerate(moves):
            self.assertIsNone(weave.behind(move))
            form = move.after(form)
            self.same(weave.many_forms(), place + 2)
            self.same(weave.form_at(place + 1), form)
            self.assertIs(weave.move_at(place), move)
        self.same(weave.form_at(0), FORM)
        self.same(weave.form_at(4), FORM)

    def test_arguments_by_name(self):
        weave = Weave(form=FORM, things=things())
        weave.behind(move=Renumber(3, 1, SIZE))
        self.same(weave.form_at(n=1), FORM)
        self.assertEqual(weave.move_at(n=0).words(), ("renumber", 3, 1, SIZE))
        self.same(weave.root(n=1, key=7), 2)
        self.same(weave.key_at(n=1, root=2), 7)
        self.same(weave.row(n=1, table="more", key=7, place=1), {"n": 12})
        self.same(weave.rows(n=1, table="more"), [(7, 0, {"n": 8}), (7, 1, {"n": 12}), (8, 0, {"n": 11})])
        self.same(weave.piece(n=1, key=7), thing(5, 0, 8, 12))
        self.same(weave.held(n=1), [1, 7, 8])
        self.same(weave.write(n=1, steps=[set_row(7, 0, 9)]), [7])
        self.assertIsNone(weave.carry(root=2, n=0))
        self.same(weave.lies(root=2), (0, thing(5, 0, 9, 12), [None]))

    def test_a_move_that_does_not_fit(self):
        weave = weave_of(FORM, things(), Put("main", "p", WHOLE, 1))
        for move, told in (
            (Put("main", "p", WHOLE, 1), 0), (Rename("main", "x", "y"), 0), (Renumber(3, 1, 11), 0),
            (Chain([Rename("main", "p", "q"), Rename("main", "p", "r")]), 1), (Turned(Cap("more", "n", 3)), 0),
            (Chain([Move(), Chain([Move(), Rename("x", "a", "b")]), Move()]), 1),
        ):
            caught = self.changes_nothing(weave, NoMove, weave.behind, move)
            self.same(caught.move, told)
            self.same(weave.many_forms(), 2)
            self.refuses(NoForm, weave.move_at, 1)
        # It need fit the last form alone.
        self.refuses(NoMove, weave.behind, Put("main", "p", WHOLE, 1))
        weave.behind(Turned(Put("main", "p", WHOLE, 2)))
        weave.behind(Put("main", "p", WHOLE, 1))
        self.same(weave.form_at(3), weave.form_at(1))

    def test_one_move_set_behind_twice(self):
        move = Shift("main", "n", 10)
        weave = weave_of(NUMBERS, {4: number(1)}, move, move)
        self.same([weave.piece(n, 4) for n in range(3)], [number(1), number(11), number(21)])


class TestNumbersOfForms(WeaveCase):
    def asks(self, weave):
        return [
            lambda n: weave.form_at(n), lambda n: weave.root(n, 1), lambda n: weave.key_at(n, 1), lambda n: weave.row(n, "main", 2),
            lambda n: weave.row(n, "main", 2, 0), lambda n: weave.rows(n, "main"), lambda n: weave.piece(n, 2), lambda n: weave.held(n),
            lambda n: weave.write(n, []), lambda n: weave.write(n, [set_row(2, 0, 1)]), lambda n: weave.carry(2, n),
            # With what is refused otherwise.
            lambda n: weave.row(n, "none", 2), lambda n: weave.row(n, "main", 77, 5), lambda n: weave.rows(n, "none"),
            lambda n: weave.piece(n, 77), lambda n: weave.write(n, [("cut", "none", 1, 1)]), lambda n: weave.write(n, [("cut", "main", 77, 0)]),
            lambda n: weave.carry(7, n), lambda n: weave.carry(-1, n),
        ]

    def test_numbers_of_no_form(self):
        for moves in range(3):
            weave = weave_of(FORM, things(), *[Shift("main", "n", 1)] * moves)
            for n in (-1, -2, -3, -10 ** 300, moves + 1, moves + 2, 10 ** 300):
                for ask in self.asks(weave):
                    self.changes_nothing(weave, NoForm, ask, n)

    def test_numbers_of_no_move(self):
        for moves in range(3):
            weave = weave_of(FORM, things(), *[Shift("main", "n", 1)] * moves)
            for n in (-1, -2, moves, moves + 1, 10 ** 300):
                self.changes_nothing(weave, NoForm, weave.move_at, n)
            for n in range(moves):
                self.same(weave.move_at(n).words(), ("shift", "main", "n", 1))

    def test_a_weave_without_things(self):
        weave = Weave(FORM)
        for ask in self.asks(weave):
            self.refuses(NoForm, ask, 1)
            self.refuses(NoForm, ask, -1)

    def test_a_form_that_comes(self):
        weave = Weave(FORM, things())
        self.refuses(NoForm, weave.held, 1)
        self.refuses(NoForm, weave.carry, 2, 1)
        weave.behind(Move())
        self.same(weave.held(1), [0, 2, 9])
        self.assertIsNone(weave.carry(2, 1))
        self.refuses(NoForm, weave.held, 2)

    def test_what_is_no_number(self):
        weave = weave_of(FORM, things(), Move())
        for n in (None, True, False, "0", 0.0, (), [0]):
            self.changes_nothing(weave, NoForm, weave.held, n)
            self.changes_nothing(weave, NoForm, weave.move_at, n)


class TestKeys(WeaveCase):
    def test_no_move(self):
        weave = Weave(FORM)
        for key in range(SIZE):
            self.same((weave.root(0, key), weave.key_at(0, key)), (key, key))

    def test_through_several_moves(self):
        # 3k + 1, then the undoing of 7k + 2, then 9k; between them moves that leave keys as they are.
        moves = [Renumber(3, 1, SIZE), Put("main", "p", WHOLE, 1), Turned(Renumber(7, 2, SIZE)), Chain([Renumber(9, 0, SIZE), Move()])]
        weave = weave_of(FORM, things(), *moves)
        for root in range(SIZE):
            first = (3 * root + 1) % SIZE
            third = [key for key in range(SIZE) if (7 * key + 2) % SIZE == first][0]
            keys = [root, first, first, third, 9 * third % SIZE]
            self.same([weave.key_at(n, root) for n in range(5)], keys)
            self.same([weave.root(n, keys[n]) for n in range(5)], [root] * 5)

    def test_whether_or_not_a_thing_has_them(self):
        for pieces in (None, things()):
            weave = weave_of(FORM, pieces, Renumber(3, 4, SIZE))
            self.same([weave.key_at(1, root) for root in range(SIZE)], [4, 7, 0, 3, 6, 9, 2, 5, 8, 1])
            self.same([weave.root(1, key) for key in range(SIZE)], [2, 9, 6, 3, 0, 7, 4, 1, 8, 5])

    def test_great_sizes(self):
        size = 10 ** 12
        form = form_of(size, [("main", "head", {})])
        weave = weave_of(form, None, Renumber(3, 1, size), Renumber(7, size - 1, size))
        for root in (0, 1, size // 2, size - 1):
            key = (7 * ((3 * root + 1) % size) - 1) % size
            self.same(weave.key_at(2, root), key)
            self.same(weave.root(2, key), root)

    def test_pieces_by_their_keys(self):
        weave = weave_of(FORM, things(), Renumber(3, 1, SIZE), Renumber(1, 5, SIZE))
        self.same(weave.held(0), [0, 2, 9])
        self.same(weave.held(1), [1, 7, 8])
        self.same(weave.held(2), [2, 3, 6])
        self.same(weave.piece(1, 8), thing(20, 2, 11, k=7))
        self.same(weave.piece(2, 3), thing(20, 2, 11, k=2))
        self.same(weave.rows(2, "more"), [(2, 0, {"n": 8}), (2, 1, {"n": 12}), (3, 0, {"n": 11})])

    def test_a_write_by_the_keys_of_its_form(self):
        weave = weave_of(FORM, things(), Renumber(3, 1, SIZE))
        steps = [("add", "main", 3, 0, {"n": 6, "k": 8, "o": 5}), set_row(8, 0, 1), ("cut", "main", 1, 0)]
        self.same(weave.write(1, steps), [1, 3, 8])
        self.same(weave.held(0), [2, 4, 9])
        self.same(weave.held(1), [3, 7, 8])
        self.same(weave.piece(0, 4), thing(6, 5, k=9))
        self.same(weave.piece(0, 9), thing(20, 2, 1, k=2))
        self.lies(weave, 4, 1, thing(6, 5, k=8), [None])
        self.lies(weave, 2, 0, thing(5, 0, 8, 12), [None])


class TestLies(WeaveCase):
    def weave(self):
        put = Put("more", "p", WHOLE, 7)
        return weave_of(FORM, things(), put, Cap("more", "n", 10), Cleave("side", ["k"]))

    def forms(self):
        # The thing of the root 9 in each form.
        return [
            thing(20, 2, 11, k=2),
            {"main": [{"n": 20, "k": 2, "o": 2}], "more": [{"n": 11, "p": 7}]},
            {"main": [{"n": 20, "k": 2, "o": 2}], "more": [{"n": 10, "p": 7}]},
            {"main": [{"n": 20, "o": 2}], "more": [{"n": 10, "p": 7}], "side": [{"k": 2}]},
        ]

    def test_at_the_start(self):
        weave = self.weave()
        for root, piece in things().items():
            self.lies(weave, root, 0, piece, [[7] * len(piece["more"]), None, None])

    def test_carried(self):
        weave = self.weave()
        rests = [[[7], None, None], [None, None, None], [None, [11], None], [None, [11], None]]
        for way in ([1, 2, 3], [2, 1, 0], [3, 0, 3], [3, 3, 1, 1, 0, 0, 2, 0]):
            for n in way:
                self.assertIsNone(weave.carry(9, n))
                self.lies(weave, 9, n, self.forms()[n], rests[n])
        self.lies(weave, 2, 0, things()[2], [[7, 7], None, None])

    def test_read_wherever_it_lies(self):
        weave = self.weave()
        for position in (0, 1, 2, 3, 1, 0):
            weave.carry(9, position)
            for n in range(4):
                self.same(weave.piece(n, 9), self.forms()[n])
                self.same(weave.row(n, "main", 9), self.forms()[n]["main"][0])
                self.same(weave.row(n, "more", 9, 0), self.forms()[n]["more"][0])
                self.same(weave.held(n), [0, 2, 9])
                self.assertIn((9, 0, self.forms()[n]["more"][0]), weave.rows(n, "more"))
            self.lies(weave, 9, position, self.forms()[position], weave.lies(9)[2])

    def test_a_root_that_no_thing_has(self):
        weave = self.weave()
        for root in (1, 3, 8, SIZE, -1, -8, 10 ** 300):
            self.refuses_step(Missing, ("main", root, 0), weave.lies, root)
            for n in range(4):
                self.refuses_step(Missing, ("main", root, 0), weave.carry, root, n)
        self.refuses_step(Missing, ("main", 0, 0), Weave(FORM).lies, 0)

    def test_a_root_is_no_key_of_a_later_form(self):
        weave = weave_of(FORM, things(), Renumber(3, 1, SIZE))
        weave.carry(2, 1)
        self.same(weave.lies(2)[0], 1)
        self.refuses_step(Missing, ("main", 7, 0), weave.lies, 7)
        self.refuses_step(Missing, ("main", 1, 0), weave.carry, 1, 0)

    def test_another_heads_name(self):
        weave = Weave(form_of(5, [("zoo", "head", {}), ("ape", "many", {})]), {1: {"zoo": [{}], "ape": []}})
        self.refuses_step(Missing, ("zoo", 3, 0), weave.lies, 3)
        self.refuses_step(Missing, ("zoo", 3, 0), weave.carry, 3, 0)
        self.refuses_step(Missing, ("zoo", 3, 0), weave.piece, 0, 3)

    def test_a_thing_that_is_gone(self):
        weave = self.weave()
        weave.carry(0, 2)
        self.same(weave.write(3, [("cut", "main", 0, 0), ("cut", "side", 0, 0)]), [0])
        self.refuses_step(Missing, ("main", 0, 0), weave.lies, 0)
        self.refuses_step(Missing, ("main", 0, 0), weave.carry, 0, 1)
        self.same([weave.held(n) for n in range(4)], [[2, 9]] * 4)


class TestReads(WeaveCase):
    def test_as_a_plain_table(self):
        weave = weave_of(FORM, things(), Renumber(3, 1, SIZE), Put("more", "p", WORD, "x"), Cleave("side", ["n"]))
        for n in range(4):
            form = weave.form_at(n)
            plain = Plain(form, {key: weave.piece(n, key) for key in weave.held(n)})
            for table in tables_of(form) + ["none", "mai", ""]:
                self.same(self.answer(weave.rows, n, table), self.answer(plain.rows, table))
                for key in range(-12, 40):
                    self.same(self.answer(weave.row, n, table, key), self.answer(plain.row, table, key))
                    for place in (-2, -1, 0, 1, 2, 3):
                        self.same(self.answer(weave.row, n, table, key, place), self.answer(plain.row, table, key, place))
            for key in range(-12, 40):
                self.same(self.answer(weave.piece, n, key), self.answer(plain.piece, key))

    def test_keys_beyond_the_size(self):
        # Round the size, 17 would be the key of the same thing as 7.
        weave = weave_of(FORM, things(), Renumber(3, 1, SIZE))
        self.same(weave.row(1, "main", 7), {"n": 5, "k": None, "o": 0})
        for key in (17, -3, 7 + 10 ** 12, 27):
            self.refuses_step(Missing, ("main", key, 0), weave.row, 1, "main", key)
            self.refuses_step(Missing, ("more", key, 1), weave.row, 1, "more", key, 1)
            self.refuses_step(Missing, ("main", key, 0), weave.piece, 1, key)
        for key in (10, -1, 12):
            self.refuses_step(Missing, ("main", key, 0), weave.piece, 0, key)

    def test_refusals(self):
        weave = weave_of(FORM, things(), Cleave("side", ["k"]))
        self.refuses_step(NoTable, ("side", 2, 0), weave.row, 0, "side", 2)
        self.refuses_step(NoTable, ("side", 77, 5), weave.row, 0, "side", 77, 5)
        self.refuses_step(NoTable, ("side", None, None), weave.rows, 0, "side")
        self.same(weave.row(1, "side", 9), {"k": 2})
        self.refuses_step(Missing, ("side", 9, 1), weave.row, 1, "side", 9, 1)
        self.refuses_step(Missing, ("more", 2, 2), weave.row, 1, "more", 2, 2)
        self.refuses_step(Missing, ("more", 2, -1), weave.row, 1, "more", 2, -1)
        self.refuses_step(Missing, ("more", 0, 0), weave.row, 1, "more", 0)

    def test_reading_leaves_things_where_they_lie(self):
        weave = weave_of(FORM, things(), Put("more", "p", WHOLE, 7), Cap("more", "n", 10))
        weave.carry(2, 1)
        weave.carry(9, 2)
        before = [exact(weave.lies(root)) for root in (0, 2, 9)]
        for n in range(3):
            weave.held(n)
            weave.rows(n, "more")
            weave.piece(n, 2)
            weave.row(n, "more", 9)
            self.refuses(Missing, weave.row, n, "more", 0)
        self.assertEqual([exact(weave.lies(root)) for root in (0, 2, 9)], before)


class TestWrites(WeaveCase):
    def test_in_every_form(self):
        for n, value, came in ((0, 3, [3, 6, -6]), (1, 8, [5, 8, -8]), (2, 40, [-43, -40, 40])):
            turned = Turn("main", "n", WHOLE, WHOLE, lambda value: -value, lambda value: -value)
            weave = weave_of(NUMBERS, {4: number(1), 5: number(2)}, Shift("main", "n", 3), turned)
            self.same(weave.write(n, [set_number(4, value)]), [4])
            self.same([weave.piece(form, 4) for form in range(3)], [number(other) for other in came])
            self.same([weave.piece(form, 5) for form in range(3)], [number(2), number(5), number(-5)])
            self.lies(weave, 4, n, number(value), [None, None])
            self.lies(weave, 5, 0, number(2), [None, None])

    def test_nothing_to_do(self):
        weave = weave_of(FORM, things(), Put("main", "p", WHOLE, 1))
        weave.carry(2, 1)
        before = exact(self.state(weave))
        for n in (0, 1):
            self.same(weave.write(n, []), [])
        self.assertEqual(exact(self.state(weave)), before)

    def test_a_thing_lies_where_it_is_written(self):
        weave = weave_of(NUMBERS, {4: number(1)}, Shift("main", "n", 1), Shift("main", "n", 1), Shift("main", "n", 1))
        for n in (3, 0, 2, 2, 1, 3):
            self.same(weave.write(n, [set_number(4, 5)]), [4])
            self.lies(weave, 4, n, number(5), [None] * 3)

    def test_a_set_of_the_same_row_is_a_write(self):
        weave = weave_of(NUMBERS, {4: number(1)}, Put("main", "p", WHOLE, 3))
        self.same(weave.write(1, [("set", "main", 4, 0, {"n": 1, "p": 3})]), [4])
        self.lies(weave, 4, 1, {"main": [{"n": 1, "p": 3}]}, [None])

    def test_several_things(self):
        weave = weave_of(FORM, things(), Cap("more", "n", 10), Put("more", "p", WHOLE, 7))
        weave.carry(0, 1)
        weave.carry(9, 2)
        steps = [
            ("cut", "main", 9, 0), ("cut", "more", 9, 0), ("set", "more", 2, 1, {"n": 10, "p": 8}),
            ("add", "main", 5, 0, {"n": 1, "k": 4, "o": 4}), ("add", "main", 4, 0, {"n": 2, "k": 5, "o": 5}), ("add", "more", 5, 0, {"n": 3, "p": 1}),
        ]
        self.same(weave.write(2, steps), [2, 4, 5, 9])
        self.same(weave.held(0), [0, 2, 4, 5])
        self.lies(weave, 0, 1, things()[0], [[], []])
        self.lies(weave, 2, 2, {"main": [{"n": 5, "k": None, "o": 0}], "more": [{"n": 8, "p": 7}, {"n": 10, "p": 8}]}, [[None, 12], None])
        self.lies(weave, 4, 2, {"main": [{"n": 2, "k": 5, "o": 5}], "more": []}, [[], None])
        self.lies(weave, 5, 2, {"main": [{"n": 1, "k": 4, "o": 4}], "more": [{"n": 3, "p": 1}]}, [[None], None])
        self.same(weave.piece(0, 2), thing(5, 0, 8, 12))

    def test_a_thing_that_comes_and_goes_in_one_write(self):
        weave = weave_of(NUMBERS, {4: number(1)}, Put("main", "p", WHOLE, 3))
        steps = [("add", "main", 5, 0, {"n": 1}), ("cut", "main", 5, 0)]
        self.same(weave.write(0, steps), [5])
        self.same(weave.held(1), [4])
        self.refuses_step(Missing, ("main", 5, 0), weave.lies, 5)

    def test_every_refusal(self):
        weave = weave_of(FORM, things(), Renumber(3, 1, SIZE), Cap("more", "n", 10), Cleave("side", ["o"]))
        weave.carry(9, 2)
        weave.carry(0, 3)
        main = {"n": 1, "k": None}
        # In form 3 the keys are 7, 1 and 8; 8 points to 7.
        for error, spot, steps in (
            (NoTable, ("none", 7, 0), [("cut", "none", 7, 0)]),
            (BadRow, ("main", SIZE, 0), [("cut", "main", SIZE, 0)]),
            (BadRow, ("main", -1, 0), [("cut", "main", -1, 0)]),
            (BadRow, ("side", 7, 1), [("add", "side", 7, 1, {"o": 9})]),
            (BadRow, ("more", 7, 0), [set_row(7, 0, 11)]),
            (BadRow, ("main", 7, 0), [("set", "main", 7, 0, {"n": 1, "k": None, "o": 3})]),
            (Taken, ("more", 7, 1), [("add", "more", 7, 1, {"n": 1})]),
            (Missing, ("more", 7, 2), [set_row(7, 2, 1)]),
            (Missing, ("more", 1, 0), [("cut", "more", 1, 0)]),
            (Missing, ("main", 2, 0), [("set", "main", 2, 0, main)]),
            (Lone, ("side", 3, 0), [("add", "main", 3, 0, main)]),
            (Lone, ("main", 7, 0), [("cut", "main", 7, 0)]),
            (Gap, ("more", 7, 0), [("cut", "more", 7, 0)]),
            (Gap, ("more", 1, 0), [("add", "more", 1, 1, {"n": 1})]),
            (Twice, ("side", 8, 0), [("set", "side", 8, 0, {"o": 0})]),
            (Twice, ("side", 3, 0), [("add", "main", 3, 0, main), ("add", "side", 3, 0, {"o": 1})]),
            (Nowhere, ("main", 7, 0), [("set", "main", 7, 0, {"n": 1, "k": 2})]),
            (Nowhere, ("main", 8, 0), [("cut", "main", 7, 0), ("cut", "side", 7, 0), ("cut", "more", 7, 0), ("cut", "more", 7, 1)]),
        ):
            with self.subTest(error=error.__name__, spot=spot):
                before = exact(self.state(weave))
                self.refuses_step(error, spot, weave.write, 3, steps)
                self.refuses_step(error, spot, weave.write, 3, [set_row(8, 0, 2)] + steps)
                self.assertEqual(exact(self.state(weave)), before)

    def test_a_breach_in_one_form_is_told_in_the_writers_form(self):
        # The same two steps in two forms: the table, the key and the name of the column differ, and so do the fields.
        weave = weave_of(FORM, things(), Renumber(3, 1, SIZE), Cleave("side", ["o"]))
        self.refuses_step(Twice, ("main", 2, 0), weave.write, 0, [("set", "main", 2, 0, {"n": 5, "k": None, "o": 1})])
        self.refuses_step(Twice, ("main", 7, 0), weave.write, 1, [("set", "main", 7, 0, {"n": 5, "k": None, "o": 1})])
        self.refuses_step(Twice, ("side", 7, 0), weave.write, 2, [("set", "side", 7, 0, {"o": 1})])
        self.refuses_step(Nowhere, ("main", 0, 0), weave.write, 0, [("set", "main", 0, 0, {"n": 5, "k": 1, "o": 1})])
        self.refuses_step(Nowhere, ("main", 1, 0), weave.write, 2, [("set", "main", 1, 0, {"n": 5, "k": 0})])
        self.same(weave.write(2, [("set", "main", 1, 0, {"n": 5, "k": 1})]), [1])
        self.same(weave.row(0, "main", 0), {"n": 5, "k": 0, "o": 1})


class TestSettledRests(WeaveCase):
    def test_a_new_thing(self):
        moves = [Put("more", "p", WHOLE, 7), Cap("more", "n", 10), Turned(Put("more", "p", WHOLE, 3))]
        for n, row, rests in (
            (0, {"n": 12}, [[7], None, None]), (1, {"n": 12, "p": 4}, [None, None, None]), (2, {"n": 10, "p": 4}, [None, [None], None]),
            (3, {"n": 10}, [None, [None], [3]]),
        ):
            weave = weave_of(ROWS, None, *moves)
            self.same(weave.write(n, [("add", "main", 4, 0, {}), ("add", "more", 4, 0, row)]), [4])
            self.lies(weave, 4, n, {"main": [{}], "more": [row]}, rests)
        self.same([weave.row(n, "more", 4) for n in range(4)], [{"n": 10}, {"n": 10, "p": 3}, {"n": 10, "p": 3}, {"n": 10}])

    def test_an_old_program_writes_and_the_new_ones_column_stays(self):
        weave = weave_of(ROWS, {4: rows(1, 2)}, Put("more", "p", WHOLE, 7))
        weave.write(1, [("set", "more", 4, 1, {"n": 2, "p": 9})])
        self.same(weave.write(0, [set_row(4, 1, 5)]), [4])
        self.lies(weave, 4, 0, rows(1, 5), [[7, 9]])
        self.same(weave.rows(1, "more"), [(4, 0, {"n": 1, "p": 7}), (4, 1, {"n": 5, "p": 9})])

    def test_by_places(self):
        # A row amid others goes by setting those behind it one place ahead: what the other form knows stays at its place.
        weave = weave_of(ROWS, {4: rows(1, 2, 3)}, Put("more", "p", WHOLE, 7))
        weave.write(1, [("set", "more", 4, place, {"n": place + 1, "p": 10 + place}) for place in range(3)])
        weave.write(0, [set_row(4, 0, 2), set_row(4, 1, 3), ("cut", "more", 4, 2)])
        self.same(weave.piece(1, 4)["more"], [{"n": 2, "p": 10}, {"n": 3, "p": 11}])
        weave.write(0, [("add", "more", 4, 2, {"n": 8})])
        self.same(weave.piece(1, 4)["more"], [{"n": 2, "p": 10}, {"n": 3, "p": 11}, {"n": 8, "p": 7}])

    def test_a_new_program_writes_and_the_old_ones_number_stays(self):
        weave = weave_of(ROWS, {4: rows(12, 3, 15)}, Cap("more", "n", 10))
        weave.write(1, [set_row(4, 1, 10)])
        self.lies(weave, 4, 1, rows(10, 10, 10), [[12, None, 15]])
        weave.write(1, [set_row(4, 0, 9), ("cut", "more", 4, 2)])
        self.lies(weave, 4, 1, rows(9, 10), [[None, None]])
        self.same(weave.piece(0, 4), rows(9, 10))

    def test_cut_and_added_in_one_write(self):
        weave = weave_of(ROWS, {4: rows(12, 3), 5: rows(14)}, Put("more", "p", WHOLE, 7), Cap("more", "n", 10))
        weave.write(1, [("set", "more", 4, 0, {"n": 12, "p": 9})])
        weave.carry(4, 0)
        steps = [("cut", "main", 4, 0), ("cut", "more", 4, 0), ("cut", "more", 4, 1)]
        more = [("add", "main", 4, 0, {}), ("add", "more", 4, 1, {"n": 1, "p": 2}), ("add", "more", 4, 0, {"n": 10, "p": 3}), ("add", "more", 4, 2, {"n": 10, "p": 4})]
        self.same(weave.write(2, steps + more), [4])
        self.lies(weave, 4, 2, {"main": [{}], "more": [{"n": 10, "p": 3}, {"n": 1, "p": 2}, {"n": 10, "p": 4}]}, [None, [12, None, None]])
        self.same(weave.piece(0, 4), rows(12, 1, 10))
        self.same(weave.write(0, steps + [("cut", "more", 4, 2), ("add", "main", 4, 0, {}), ("add", "more", 4, 0, {"n": 5})]), [4])
        self.lies(weave, 4, 0, rows(5), [[3], None])

    def test_cut_by_one_write_and_added_by_a_later_one(self):
        weave = weave_of(ROWS, {4: rows(12)}, Put("more", "p", WHOLE, 7), Cap("more", "n", 10))
        weave.write(1, [("set", "more", 4, 0, {"n": 12, "p": 9})])
        self.same(weave.write(2, [("cut", "main", 4, 0), ("cut", "more", 4, 0)]), [4])
        self.same(weave.write(2, [("add", "main", 4, 0, {}), ("add", "more", 4, 0, {"n": 10, "p": 9})]), [4])
        self.lies(weave, 4, 2, {"main": [{}], "more": [{"n": 10, "p": 9}]}, [None, [None]])
        self.same(weave.write(0, [("cut", "main", 4, 0), ("cut", "more", 4, 0)]), [4])
        self.same(weave.write(0, [("add", "main", 4, 0, {}), ("add", "more", 4, 0, {"n": 12})]), [4])
        self.lies(weave, 4, 0, rows(12), [[7], None])

    def test_rests_ahead_and_behind_from_a_form_between(self):
        # Settled from the rests brought to form 2: right ones of the moves 0 and 1, left ones of 2 and 3.
        moves = [Cap("main", "n", 50), Put("main", "p", WHOLE, 7), Put("main", "q", WHOLE, 8), Cap("main", "p", 20)]
        weave = weave_of(NUMBERS, {4: number(60)}, *moves)
        weave.write(3, [("set", "main", 4, 0, {"n": 50, "p": 21, "q": 9})])
        self.lies(weave, 4, 3, {"main": [{"n": 50, "p": 21, "q": 9}]}, [[60], None, None, None])
        weave.carry(4, 4)
        self.lies(weave, 4, 4, {"main": [{"n": 50, "p": 20, "q": 9}]}, [[60], None, None, [21]])
        self.same(weave.write(2, [("set", "main", 4, 0, {"n": 50, "p": 22})]), [4])
        self.lies(weave, 4, 2, {"main": [{"n": 50, "p": 22}]}, [[60], None, [9], None])
        self.same(weave.write(4, [("set", "main", 4, 0, {"n": 50, "p": 20, "q": 1})]), [4])
        self.lies(weave, 4, 4, {"main": [{"n": 50, "p": 20, "q": 1}]}, [[60], None, None, [22]])
        self.same(weave.piece(0, 4), number(60))
        self.same(weave.write(1, [set_number(4, 49)]), [4])
        self.lies(weave, 4, 1, number(49), [[None], [22], [1], None])
        self.same(weave.piece(4, 4), {"main": [{"n": 49, "p": 20, "q": 1}]})

    def test_each_move_meets_the_piece_that_the_one_ahead_gives(self):
        # Forth: the cap taken back gives the number again, or not, and the next cap's rest hangs on that.
        form = form_of(SIZE, [("main", "head", {"n": ("upto", 5)})])
        weave = weave_of(form, {4: number(5)}, Turned(Cap("main", "n", 5)), Cap("main", "n", 7))
        weave.write(1, [set_number(4, 9)])
        self.lies(weave, 4, 1, number(9), [None, None])
        weave.write(0, [set_number(4, 5)])
        self.lies(weave, 4, 0, number(5), [[9], None])
        self.same(weave.piece(2, 4), number(7))
        weave.write(2, [set_number(4, 7)])
        self.lies(weave, 4, 2, number(7), [None, [9]])
        weave.write(2, [set_number(4, 6)])
        self.lies(weave, 4, 2, number(6), [None, [None]])
        weave.write(0, [set_number(4, 4)])
        self.lies(weave, 4, 0, number(4), [[None], None])

    def test_rows_that_come_out_of_a_tuple(self):
        form = form_of(SIZE, [("main", "head", {"t": ("list", WHOLE)})])
        weave = weave_of(form, {4: {"main": [{"t": (3, 12)}]}}, Rows("t", "side"), Put("side", "p", WHOLE, 7), Cap("side", "t", 10))
        weave.write(2, [("set", "side", 4, 1, {"t": 12, "p": 9})])
        weave.write(3, [("add", "side", 4, 2, {"t": 10, "p": 1})])
        self.lies(weave, 4, 3, {"main": [{}], "side": [{"t": 3, "p": 7}, {"t": 10, "p": 9}, {"t": 10, "p": 1}]}, [None, None, [None, 12, None]])
        self.same(weave.piece(0, 4), {"main": [{"t": (3, 12, 10)}]})
        weave.write(0, [("set", "main", 4, 0, {"t": (1, 2, 3, 40)})])
        self.lies(weave, 4, 0, {"main": [{"t": (1, 2, 3, 40)}]}, [None, [7, 9, 1, 7], None])
        weave.write(0, [("set", "main", 4, 0, {"t": ()})])
        self.lies(weave, 4, 0, {"main": [{"t": ()}]}, [None, [], None])

    def test_chains_and_turned_moves(self):
        chain = Chain([Put("main", "p", WHOLE, 7), Cap("main", "n", 10)])
        weave = weave_of(NUMBERS, {4: number(12)}, chain, Turned(chain), Turned(Turned(chain)))
        self.lies(weave, 4, 0, number(12), [[[7], None], [None, [None]], [[7], None]])
        weave.carry(4, 3)
        self.lies(weave, 4, 3, {"main": [{"n": 10, "p": 7}]}, [[None, [12]], [[7], None], [None, [None]]])
        weave.write(1, [("set", "main", 4, 0, {"n": 10, "p": 1})])
        self.lies(weave, 4, 1, {"main": [{"n": 10, "p": 1}]}, [[None, [12]], [None, [None]], [[7], None]])
        weave.write(2, [set_number(4, 15)])
        self.lies(weave, 4, 2, number(15), [[None, [12]], [[1], None], [[7], None]])
        self.same([weave.piece(n, 4)["main"][0]["n"] for n in range(4)], [12, 10, 15, 10])

    def test_things_that_no_step_names_stay(self):
        weave = weave_of(ROWS, {4: rows(12), 5: rows(13), 6: rows(14)}, Put("more", "p", WHOLE, 7), Cap("more", "n", 10))
        weave.write(1, [("set", "more", 5, 0, {"n": 13, "p": 3})])
        weave.carry(6, 2)
        before = exact([weave.lies(root) for root in (5, 6)] + [weave.piece(n, root) for n in range(3) for root in (5, 6)])
        for n in range(3):
            row = {"n": 1} if n == 0 else {"n": 1, "p": 1}
            weave.write(n, [("set", "more", 4, 0, row)])
            weave.write(n, [("add", "main", 1, 0, {}), ("add", "more", 1, 0, row)])
            weave.write(n, [("cut", "main", 1, 0), ("cut", "more", 1, 0)])
        self.assertEqual(exact([weave.lies(root) for root in (5, 6)] + [weave.piece(n, root) for n in range(3) for root in (5, 6)]), before)


class TestMovesBehindThings(WeaveCase):
    def test_each_thing_lies_where_it_lay(self):
        weave = weave_of(ROWS, {4: rows(12), 5: rows(), 6: rows(1, 2)}, Cap("more", "n", 10))
        weave.carry(4, 1)
        weave.behind(Put("more", "p", WHOLE, 7))
        self.lies(weave, 4, 1, rows(10), [[12], [7]])
        self.lies(weave, 5, 0, rows(), [None, []])
        self.lies(weave, 6, 0, rows(1, 2), [None, [7, 7]])

    def test_the_rest_goes_with_the_piece_in_the_form_that_was_the_last(self):
        # The rows come into being on the way: the thing lies ahead of that, and its new rest has one for each of them.
        form = form_of(SIZE, [("main", "head", {"t": ("list", WHOLE)})])
        weave = weave_of(form, {4: {"main": [{"t": (1, 2, 3)}]}}, Rows("t", "side"))
        weave.behind(Put("side", "p", WHOLE, 7))
        self.lies(weave, 4, 0, {"main": [{"t": (1, 2, 3)}]}, [None, [7, 7, 7]])
        weave.behind(Turned(Put("side", "p", WHOLE, 7)))
        weave.behind(Put("side", "p", WHOLE, 8))
        self.lies(weave, 4, 0, {"main": [{"t": (1, 2, 3)}]}, [None, [7, 7, 7], None, [8, 8, 8]])
        self.same(weave.rows(4, "side"), [(4, place, {"t": place + 1, "p": 8}) for place in range(3)])

    def test_the_other_rests_stay(self):
        weave = weave_of(ROWS, {4: rows(12)}, Put("more", "p", WHOLE, 7), Cap("more", "n", 10))
        weave.write(1, [("set", "more", 4, 0, {"n": 14, "p": 3})])
        weave.carry(4, 2)
        weave.behind(Put("more", "q", WORD, "x"))
        self.lies(weave, 4, 2, {"main": [{}], "more": [{"n": 10, "p": 3}]}, [None, [14], ["x"]])
        weave.carry(4, 0)
        weave.behind(Chain([Cap("more", "p", 2), Put("more", "r", WHOLE, 1)]))
        self.lies(weave, 4, 0, rows(14), [[3], None, ["x"], [None, [1]]])
        self.same(weave.row(4, "more", 4), {"n": 10, "p": 2, "q": "x", "r": 1})

    def test_as_for_a_new_thing(self):
        weave = weave_of(NUMBERS, {4: number(1)}, Shift("main", "n", 1))
        weave.carry(4, 1)
        weave.behind(Put("main", "p", WHOLE, 7))
        weave.write(1, [("add", "main", 5, 0, {"n": 2})])
        self.same(weave.lies(4), weave.lies(5))

    def test_things_that_come_later(self):
        weave = weave_of(ROWS, None, Put("more", "p", WHOLE, 7))
        weave.write(0, [("add", "main", 4, 0, {}), ("add", "more", 4, 0, {"n": 1})])
        weave.behind(Put("more", "q", WHOLE, 8))
        weave.write(0, [("add", "main", 5, 0, {}), ("add", "more", 5, 0, {"n": 1})])
        self.lies(weave, 4, 0, rows(1), [[7], [8]])
        self.lies(weave, 5, 0, rows(1), [[7], [8]])


class TestEveryMove(WeaveCase):
    def test_eight_moves(self):
        form = form_of(SIZE, [
            ("main", "head", {"n": WHOLE, "w": WORD, "t": ("some", WHOLE), "k": ("key",)}), ("more", "many", {"n": WHOLE}),
        ])
        piece = {"main": [{"n": 17, "w": "a/b", "t": (5, 6), "k": 4}], "more": [{"n": 30}]}
        mirror = Turn("main", "low", ("below", 10), ("below", 10), lambda value: 9 - value, lambda value: 9 - value)
        weave = weave_of(
            form, {4: piece}, Part("main", "n", "high", "low", 10), Split("main", "w", "/"), Rows("t", "side"), Renumber(7, 3, SIZE),
            mirror, Chain([Cap("more", "n", 20), Shift("side", "t", 1)]), Cleave("twin", ["k", "low"]), Turned(Rename("main", "words", "w")),
        )
        last = {
            "main": [{"high": 1, "words": ("a", "b")}], "more": [{"n": 20}], "side": [{"t": 6}, {"t": 7}], "twin": [{"k": 1, "low": 2}],
        }
        self.same(weave.many_forms(), 9)
        self.same(weave.held(8), [1])
        self.same(weave.piece(8, 1), last)
        for n in (8, 0, 5, 3, 8):
            weave.carry(4, n)
            self.same(weave.piece(0, 4), piece)
            self.same(weave.piece(8, 1), last)
        self.lies(weave, 4, 8, last, [None, None, None, None, None, [[30], None], None, None])
        steps = [("set", "main", 1, 0, {"high": -2, "words": ("", "c")}), ("cut", "side", 1, 1), ("set", "twin", 1, 0, {"k": None, "low": 9})]
        self.same(weave.write(8, steps), [1])
        self.same(weave.piece(0, 4), {"main": [{"n": -20, "w": "/c", "t": (5,), "k": None}], "more": [{"n": 30}]})
        self.refuses_step(Gap, ("side", 1, 0), weave.write, 8, [("cut", "side", 1, 0)])
        self.refuses_step(BadRow, ("more", 1, 0), weave.write, 8, [set_row(1, 0, 21)])
        self.same(weave.write(0, [set_row(4, 0, 21)]), [4])
        self.same(weave.row(8, "more", 1), {"n": 20})

    def test_two_hundred_things(self):
        form = form_of(200, [("main", "head", {"k": ("key",), "o": ("once", WHOLE)})])
        pieces = {key: {"main": [{"k": 199 - key, "o": key}]} for key in range(200)}
        weave = weave_of(form, pieces, Renumber(3, 1, 200), Put("main", "p", WHOLE, 7), Rename("main", "o", "q"), Move())
        self.same(weave.held(4), list(range(200)))
        self.refuses_step(Nowhere, ("main", 1, 0), weave.write, 4, [("cut", "main", weave.key_at(4, 199), 0)])
        key = weave.key_at(4, 5)
        self.same(weave.row(4, "main", key), {"k": weave.key_at(4, 194), "q": 5, "p": 7})
        self.refuses(Twice, weave.write, 4, [("set", "main", key, 0, {"k": None, "q": 6, "p": 7})])
        self.same(weave.write(4, [("set", "main", key, 0, {"k": None, "q": 500, "p": 8})]), [key])
        self.same(weave.row(0, "main", 5), {"k": None, "o": 500})


class TestOwn(WeaveCase):
    def weave(self):
        chain = Chain([Put("more", "p", ("list", WORD), ("x",)), Cap("more", "n", 10)])
        weave = weave_of(FORM, things(), chain, Put("main", "q", WHOLE, 1), Turned(Put("main", "q", WHOLE, 1)))
        weave.carry(2, 1)
        weave.carry(9, 3)
        return weave

    def test_changes_to_what_was_told(self):
        weave = self.weave()
        before = exact(self.state(weave))
        for n in range(4):
            for table in tables_of(weave.form_at(n)):
                scribble(weave.rows(n, table))
            for key in weave.held(n):
                scribble(weave.piece(n, key))
                scribble(weave.row(n, "main", key))
            scribble(weave.held(n))
        for root in (0, 2, 9):
            scribble(weave.lies(root))
        scribble(weave.write(1, []))
        self.assertEqual(exact(self.state(weave)), before)

    def test_what_was_told_stays(self):
        weave = self.weave()
        told = [weave.lies(root) for root in (0, 2, 9)] + [weave.piece(n, 2) for n in range(4)]
        told = told + [weave.rows(n, "more") for n in range(4)] + [weave.held(n) for n in range(4)] + [weave.row(3, "more", 2)]
        before = exact(told)
        for n in range(4):
            row = {"n": 1} if n == 0 else {"n": 1, "p": ()}
            weave.write(n, [("set", "more", 2, 0, row), ("cut", "more", 2, 1)])
            weave.write(n, [("add", "more", 2, 1, row)])
            weave.carry(2, 3 - n)
        weave.behind(Shift("main", "n", 1))
        weave.write(0, [("cut", "main", 0, 0)])
        self.assertEqual(exact(told), before)

    def test_changes_to_steps(self):
        weave = self.weave()
        steps = [("set", "more", 2, 0, {"n": 3}), ("add", "main", 5, 0, {"n": 1, "k": None, "o": 9}), ("add", "more", 5, 0, {"n": 1})]
        handed = deepcopy(steps)
        told = weave.write(0, handed)
        self.same(handed, steps)
        before = exact(self.state(weave))
        scribble(handed)
        scribble(told)
        self.assertEqual(exact(self.state(weave)), before)
        self.same(weave.row(0, "more", 2), {"n": 3})

    def test_changes_to_the_list_of_a_chains_moves(self):
        moves = [Put("main", "p", WHOLE, 1)]
        weave = weave_of(NUMBERS, {4: number(1)}, Chain(moves))
        moves.append(Shift("main", "n", 5))
        self.same(weave.piece(1, 4), {"main": [{"n": 1, "p": 1}]})

    def test_two_weaves_have_nothing_to_do_with_each_other(self):
        move = Put("main", "p", WHOLE, 7)
        pieces = {4: number(1)}
        one = weave_of(NUMBERS, pieces, move)
        other = weave_of(NUMBERS, pieces, move)
        one.write(1, [("set", "main", 4, 0, {"n": 2, "p": 8})])
        one.behind(Move())
        self.lies(other, 4, 0, number(1), [[7]])
        self.same(other.many_forms(), 2)


if __name__ == "__main__":
    unittest.main()
