"""Points 60 and 61: small rows and small pieces."""

import random
import unittest
from copy import deepcopy
from itertools import product

from halfmoved.errors import TableError, TooMany
from halfmoved.forms import form_of, is_piece
from halfmoved.small import pieces_of
from test_move_case import MoveCase, exact, scribble
from test_move_laws import VALUES

WHOLE = ("whole",)
WORD = ("word",)
LETTERS = "abcdefghijkl"


def model(form, values):
    # Word for word: the choices of rows of each table, and of these one for each table.
    choices = []
    for table, sort, columns in form[1]:
        lists = [values[(table, column)] for column, kind in columns]
        rows = [dict(zip([column for column, kind in columns], chosen)) for chosen in product(*lists)]
        least, most = {"head": (1, 1), "twin": (1, 1), "many": (0, 2), "some": (1, 2)}[sort]
        choices.append([chosen for many in range(least, most + 1) for chosen in product(rows, repeat=many)])
    names = [table for table, sort, columns in form[1]]
    return [dict(zip(names, [[dict(row) for row in rows] for rows in chosen])) for chosen in product(*choices)]


def numbers_form(*tables):
    # Tables told as (sort, how many values each column has); all columns hold whole numbers.
    parts = []
    values = {}
    for place, (sort, many) in enumerate(tables):
        name = "main" if place == 0 else "t" + LETTERS[place]
        parts.append((name, sort, {LETTERS[at]: WHOLE for at in range(len(many))}))
        for at, count in enumerate(many):
            values[(name, LETTERS[at])] = [10 * at + 3 - number for number in range(count)]
    return form_of(9, parts), values


class SmallCase(MoveCase):
    def tells(self, form, values, wanted):
        handed = deepcopy(values)
        told = pieces_of(form, handed)
        self.assertIsInstance(told, list)
        self.same(told, wanted)
        self.same(handed, values)

    def too_many(self, form, values):
        with self.assertRaises(TooMany) as caught:
            pieces_of(form, values)
        self.assertIs(type(caught.exception), TooMany)


class TestOrder(SmallCase):
    def test_arguments_by_name(self):
        form = form_of(9, [("main", "head", {"a": WHOLE})])
        self.same(pieces_of(form=form, values={("main", "a"): [1]}), [{"main": [{"a": 1}]}])

    def test_one_column(self):
        form = form_of(9, [("main", "head", {"a": WHOLE})])
        for values in ([5], [5, -7], [-7, 5], [0, 3, 1]):
            self.tells(form, {("main", "a"): values}, [{"main": [{"a": value}]} for value in values])

    def test_the_first_column_changes_slowest(self):
        form = form_of(9, [("main", "head", {"b": WORD, "a": WHOLE})])
        wanted = [{"main": [{"a": a, "b": b}]} for a, b in ((2, "y"), (2, ""), (2, "x"), (1, "y"), (1, ""), (1, "x"))]
        self.tells(form, {("main", "b"): ["y", "", "x"], ("main", "a"): [2, 1]}, wanted)

    def test_no_columns(self):
        self.tells(form_of(9, [("main", "head", {})]), {}, [{"main": [{}]}])

    def test_no_columns_in_tables_of_every_sort(self):
        form = form_of(9, [("main", "head", {}), ("a", "twin", {}), ("b", "many", {}), ("c", "some", {})])
        wanted = []
        for many in ([], [{}], [{}, {}]):
            for some in ([{}], [{}, {}]):
                wanted.append({"main": [{}], "a": [{}], "b": many, "c": some})
        self.tells(form, {}, wanted)

    def test_a_twin_table(self):
        form = form_of(9, [("main", "head", {"z": WHOLE}), ("a", "twin", {"b": WHOLE})])
        wanted = [{"main": [{"z": z}], "a": [{"b": b}]} for z, b in ((1, 4), (1, 3), (0, 4), (0, 3))]
        self.tells(form, {("main", "z"): [1, 0], ("a", "b"): [4, 3]}, wanted)

    def test_a_many_table(self):
        form = form_of(9, [("main", "head", {}), ("more", "many", {"a": WHOLE})])
        rows = [[], [7], [2], [7, 7], [7, 2], [2, 7], [2, 2]]
        wanted = [{"main": [{}], "more": [{"a": value} for value in values]} for values in rows]
        self.tells(form, {("more", "a"): [7, 2]}, wanted)

    def test_a_some_table(self):
        form = form_of(9, [("main", "head", {}), ("more", "some", {"a": WHOLE})])
        rows = [[7], [2], [7, 7], [7, 2], [2, 7], [2, 2]]
        wanted = [{"main": [{}], "more": [{"a": value} for value in values]} for values in rows]
        self.tells(form, {("more", "a"): [7, 2]}, wanted)

    def test_the_first_table_changes_slowest(self):
        # The head is first, whatever its name; the others stand sorted.
        form = form_of(9, [("zoo", "head", {"a": WHOLE}), ("b", "some", {"a": WORD}), ("a", "twin", {"a": WORD})])
        values = {("zoo", "a"): [1, 0], ("a", "a"): ["p", "q"], ("b", "a"): ["x"]}
        wanted = []
        for head in (1, 0):
            for twin in ("p", "q"):
                for many in (1, 2):
                    wanted.append({"zoo": [{"a": head}], "a": [{"a": twin}], "b": [{"a": "x"}] * many})
        self.tells(form, values, wanted)

    def test_two_rows_of_two_columns(self):
        form = form_of(9, [("main", "head", {}), ("more", "some", {"a": WHOLE, "b": WHOLE})])
        values = {("more", "a"): [1], ("more", "b"): [5, 4]}
        rows = [{"a": 1, "b": 5}, {"a": 1, "b": 4}]
        wanted = [[rows[0]], [rows[1]]] + [[one, other] for one in rows for other in rows]
        self.tells(form, values, [{"main": [{}], "more": chosen} for chosen in wanted])

    def test_all_kinds(self):
        for kind, values in VALUES.items():
            form = form_of(21, [("main", "head", {"a": kind}), ("more", "many", {"a": kind})])
            few = {("main", "a"): values[:3], ("more", "a"): values[1:3]}
            self.tells(form, few, model(form, few))
            for piece in pieces_of(form, few):
                self.assertTrue(is_piece(form, piece))

    def test_nothing_else_is_looked_at(self):
        form = form_of(9, [("main", "head", {"a": WHOLE})])
        values = {("main", "a"): [1, 2], ("main", "b"): None, ("more", "a"): list(range(1000)), "main": 7, ("a", "main"): []}
        self.tells(form, values, [{"main": [{"a": 1}]}, {"main": [{"a": 2}]}])

    def test_against_the_model(self):
        chance = random.Random(60)
        met = set()
        for turn in range(150):
            tables = [("head", [chance.randint(1, 3) for column in range(chance.randrange(3))])]
            for place in range(chance.randrange(4)):
                sort = chance.choice(["twin", "many", "some"])
                tables.append((sort, [chance.randint(1, 3) for column in range(chance.randrange(3))]))
            form, values = numbers_form(*tables)
            wanted = model(form, values)
            met.add(len(wanted) > 300)
            if len(wanted) > 300:
                self.too_many(form, values)
            else:
                self.tells(form, values, wanted)
        self.assertEqual(met, {True, False})


class TestTooMany(SmallCase):
    def many(self, count, *tables):
        form, values = numbers_form(*tables)
        self.assertEqual(len(model(form, values)), count)
        if count > 300:
            self.too_many(form, values)
        else:
            self.tells(form, values, model(form, values))

    def test_it_is_a_refusal(self):
        self.assertEqual(TooMany.__bases__, (TableError,))

    def test_up_to_three_hundred(self):
        # Of lists of up to three values none makes just 300; longer ones do, and are not refused for it.
        self.many(300, ("head", [5, 5]), ("some", [3]))
        self.many(300, ("head", [5]), ("twin", [5]), ("twin", [2, 2]), ("many", []))
        self.many(300, ("head", []), ("some", [4]), ("twin", [5]), ("many", []))
        self.many(294, ("head", [3, 2]), ("many", [2]), ("many", [2]))
        self.many(288, ("head", [3, 2]), ("twin", [2, 2]), ("some", [3]))
        self.many(273, ("head", []), ("many", [2, 2]), ("many", [3]))
        self.many(252, ("head", []), ("some", [3, 2]), ("some", [2]))

    def test_beyond(self):
        self.many(301, ("head", []), ("many", [2]), ("many", [3, 2]))
        self.many(303, ("head", [101]), ("many", []))
        self.many(302, ("head", [151]), ("some", []))
        self.many(304, ("head", [2, 2, 2, 2]), ("twin", [19]))
        self.many(324, ("head", [3, 3, 3, 3]), ("twin", [2, 2]))
        self.many(343, ("head", []), ("many", [2]), ("many", [2]), ("many", [2]))
        self.many(306, ("head", []), ("some", [17]))
        self.many(307, ("head", []), ("many", [17]))

    def test_each_sort_counts(self):
        self.many(243, ("head", [3] * 5))
        self.many(729, ("head", [3] * 6))
        self.many(729, ("head", [3] * 3), ("twin", [3] * 3))
        self.many(272, ("head", []), ("some", [2] * 4))
        self.many(273, ("head", []), ("many", [2] * 4))
        self.many(544, ("head", []), ("some", [2] * 4), ("some", []))
        self.many(819, ("head", []), ("many", [2] * 4), ("many", []))

    def test_very_many(self):
        # Were any of these built, that would never come to an end.
        for sort in ("twin", "many", "some"):
            form, values = numbers_form(("head", [1]), (sort, [3] * 12))
            self.too_many(form, values)
            form, values = numbers_form(("head", [3] * 12), *[(sort, [3] * 12)] * 7)
            self.too_many(form, values)
        form, values = numbers_form(("head", [3] * 12))
        self.too_many(form, values)
        form, values = numbers_form(("head", []), *[("many", [])] * 7)
        self.too_many(form, values)
        form, values = numbers_form(("head", []), *[("some", [])] * 7)
        self.tells(form, values, model(form, values))

    def test_many_rows_of_one_value(self):
        self.many(1, ("head", [1] * 12), ("twin", [1] * 12))
        self.many(6, ("head", [1] * 12), ("many", [1] * 12), ("some", [1] * 12))


class TestOwn(SmallCase):
    def form_and_values(self):
        form = form_of(9, [("main", "head", {"a": WHOLE, "t": ("list", WORD)}), ("b", "twin", {}), ("c", "many", {"a": WHOLE}), ("d", "some", {})])
        return form, {("main", "a"): [1, 2], ("main", "t"): [(), ("x",)], ("c", "a"): [3, 4]}

    def test_pieces_share_nothing(self):
        form, values = self.form_and_values()
        wanted = [exact(piece) for piece in pieces_of(form, values)]
        told = pieces_of(form, values)
        for place, piece in enumerate(told):
            scribble(piece)
            self.assertEqual([exact(other) for other in told[place + 1:]], wanted[place + 1:])
        scribble(told)
        self.assertEqual([exact(piece) for piece in pieces_of(form, values)], wanted)

    def test_rows_of_one_piece_share_nothing(self):
        form, values = self.form_and_values()
        for piece in pieces_of(form, values):
            rows = [row for table in piece for row in piece[table]]
            self.assertEqual(len({id(row) for row in rows}), len(rows))

    def test_changes_to_the_values(self):
        form, values = self.form_and_values()
        wanted = exact(pieces_of(form, values))
        handed = deepcopy(values)
        told = pieces_of(form, handed)
        scribble(handed)
        self.assertEqual(exact(told), wanted)


if __name__ == "__main__":
    unittest.main()
