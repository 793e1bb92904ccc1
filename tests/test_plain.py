"""Points 20 to 27: how a plain table is made, written and asked, and what it refuses."""

import copy
import unittest

from halfmoved.errors import BadRow, Gap, Lone, Missing, NoTable, Nowhere, Taken, Twice
from halfmoved.forms import form_of, is_piece
from halfmoved.plain import Plain

# One table of each sort, with a side table whose name comes ahead of the head's.
FORM = form_of(20, [
    ("main", "head", {"at": ("key",), "no": ("once", ("whole",)), "text": ("word",)}),
    ("twin", "twin", {"n": ("below", 3)}),
    ("bag", "many", {"v": ("whole",)}),
    ("lines", "some", {"line": ("word",)}),
])
TABLES = ["main", "bag", "lines", "twin"]


def main_row(no, at=None, text=""):
    return {"at": at, "no": no, "text": text}


def bag_rows(*values):
    return [{"v": value} for value in values]


def line_rows(*texts):
    return [{"line": text} for text in texts]


def thing_of(no, at=None, bag=(), lines=("one",)):
    return {"main": [main_row(no, at)], "twin": [{"n": 0}], "bag": bag_rows(*bag), "lines": line_rows(*lines)}


def adds_of(key, piece, tables=("main", "twin", "bag", "lines")):
    return [("add", table, key, place, row) for table in tables for place, row in enumerate(piece[table])]


def cuts_of(key, piece, tables=("main", "twin", "bag", "lines")):
    return [("cut", table, key, place) for table in tables for place in range(len(piece[table]))]


def state_of(plain, tables=TABLES):
    return ([plain.rows(table) for table in tables], plain.held(), [plain.piece(key) for key in plain.held()])


class PlainCase(unittest.TestCase):
    def refused(self, error, fields, ask, *words):
        with self.assertRaises(error) as caught:
            ask(*words)
        told = caught.exception
        self.assertIs(told.__class__, error)
        self.assertEqual((told.table, told.key, told.place), fields)
        # A truth equals a number, so equal fields alone would not show that they are those of the step.
        self.assertEqual(repr((told.table, told.key, told.place)), repr(fields))

    def refused_write(self, plain, error, fields, steps, tables=TABLES):
        before = copy.deepcopy(state_of(plain, tables))
        self.refused(error, fields, plain.write, steps)
        self.assertEqual(state_of(plain, tables), before)

    def filled(self):
        return Plain(FORM, {
            7: thing_of(70, None, (1, 2, 3), ("a", "b")),
            2: thing_of(20, 7, (), ("c",)),
            12: thing_of(120, 12, (5,), ("d", "e", "f")),
        })


class TestMade(PlainCase):
    def test_with_nothing(self):
        for plain in [Plain(FORM), Plain(FORM, None), Plain(FORM, {})]:
            self.assertEqual(plain.held(), [])
            for table in TABLES:
                self.assertEqual(plain.rows(table), [])
            self.refused(Missing, ("main", 0, 0), plain.piece, 0)
            self.refused(Missing, ("bag", 0, 0), plain.row, "bag", 0)

    def test_with_things(self):
        plain = self.filled()
        self.assertEqual(plain.held(), [2, 7, 12])
        self.assertEqual(plain.piece(7), thing_of(70, None, (1, 2, 3), ("a", "b")))
        self.assertEqual(plain.piece(2), thing_of(20, 7, (), ("c",)))
        self.assertEqual(plain.rows("bag"), [(7, 0, {"v": 1}), (7, 1, {"v": 2}), (7, 2, {"v": 3}), (12, 0, {"v": 5})])

    def test_two_tables_are_apart(self):
        one = Plain(FORM)
        other = Plain(FORM)
        one.write(adds_of(3, thing_of(1)))
        self.assertEqual(other.held(), [])
        self.assertEqual(Plain(FORM).held(), [])

    def test_keys_at_the_edges(self):
        plain = Plain(FORM, {19: thing_of(1, 0), 0: thing_of(2, 19)})
        self.assertEqual(plain.held(), [0, 19])

    def test_refused_with_twice(self):
        self.refused(Twice, ("main", 9, 0), Plain, FORM, {9: thing_of(5), 3: thing_of(5)})
        self.refused(Twice, ("main", 9, 0), Plain, FORM, {9: thing_of(5), 3: thing_of(5), 11: thing_of(5)})
        self.refused(Twice, ("main", 11, 0), Plain, FORM, {11: thing_of(5), 9: thing_of(4), 3: thing_of(5)})

    def test_refused_with_nowhere(self):
        self.refused(Nowhere, ("main", 4, 0), Plain, FORM, {4: thing_of(1, 5)})
        self.refused(Nowhere, ("main", 2, 0), Plain, FORM, {10: thing_of(1, 5), 2: thing_of(2, 6), 3: thing_of(3, 2)})

    def test_twice_goes_ahead_of_nowhere(self):
        self.refused(Twice, ("main", 9, 0), Plain, FORM, {1: thing_of(0, 8), 3: thing_of(5), 9: thing_of(5)})

    def test_once_in_a_side_table_goes_ahead_of_a_pointer_in_the_head(self):
        form = form_of(9, [("main", "head", {"at": ("key",)}), ("side", "many", {"no": ("once", ("word",))})])
        things = {1: {"main": [{"at": 5}], "side": [{"no": "a"}]}, 2: {"main": [{"at": None}], "side": [{"no": "a"}]}}
        self.refused(Twice, ("side", 2, 0), Plain, form, things)
        things[2]["side"][0]["no"] = "b"
        self.refused(Nowhere, ("main", 1, 0), Plain, form, things)

    def test_what_was_handed_in_is_not_changed_and_changes_nothing(self):
        things = {7: thing_of(70, None, (1, 2)), 2: thing_of(20, 7)}
        before = copy.deepcopy(things)
        plain = Plain(FORM, things)
        plain.write([("set", "bag", 7, 1, {"v": 9}), ("add", "bag", 7, 2, {"v": 3}), ("set", "main", 2, 0, main_row(5))])
        plain.write(cuts_of(2, plain.piece(2)) + adds_of(4, thing_of(6)))
        self.assertEqual(things, before)
        self.assertEqual(list(things), [7, 2])
        state = copy.deepcopy(state_of(plain))
        things[7]["main"][0]["no"] = 1
        things[7]["bag"].append({"v": 4})
        things[7].pop("lines")
        things[9] = thing_of(90)
        things.pop(2)
        self.assertEqual(state_of(plain), state)


class TestWrite(PlainCase):
    def test_a_thing_comes(self):
        plain = Plain(FORM)
        piece = thing_of(5, None, (4, 5, 6), ("x", "y"))
        self.assertEqual(plain.write(adds_of(3, piece)), [3])
        self.assertEqual(plain.held(), [3])
        self.assertEqual(plain.piece(3), piece)
        self.assertTrue(is_piece(FORM, plain.piece(3)))

    def test_the_steps_of_a_thing_come_in_any_order(self):
        plain = Plain(FORM)
        piece = thing_of(5, None, (4, 5, 6), ("x", "y"))
        self.assertEqual(plain.write(list(reversed(adds_of(3, piece)))), [3])
        self.assertEqual(plain.piece(3), piece)

    def test_a_thing_goes(self):
        plain = self.filled()
        self.assertEqual(plain.write(cuts_of(2, plain.piece(2))), [2])
        self.assertEqual(plain.held(), [7, 12])
        self.refused(Missing, ("main", 2, 0), plain.piece, 2)
        self.refused(Missing, ("twin", 2, 0), plain.row, "twin", 2)
        for table in TABLES:
            self.assertNotIn(2, [key for key, place, row in plain.rows(table)])

    def test_a_thing_that_went_comes_again(self):
        plain = self.filled()
        plain.write(cuts_of(2, plain.piece(2)))
        self.assertEqual(plain.write(adds_of(2, thing_of(21, 7, (8,)))), [2])
        self.assertEqual(plain.piece(2), thing_of(21, 7, (8,)))

    def test_a_thing_goes_and_comes_in_one_write(self):
        plain = self.filled()
        steps = cuts_of(7, plain.piece(7)) + adds_of(7, thing_of(71, 2, (), ("new",)))
        self.assertEqual(plain.write(steps), [7])
        self.assertEqual(plain.piece(7), thing_of(71, 2, (), ("new",)))

    def test_a_thing_comes_and_goes_in_one_write(self):
        plain = self.filled()
        before = state_of(plain)
        piece = thing_of(5, None, (1, 2))
        self.assertEqual(plain.write(adds_of(4, piece) + cuts_of(4, piece)), [4])
        self.assertEqual(state_of(plain), before)

    def test_set(self):
        plain = self.filled()
        self.assertEqual(plain.write([("set", "bag", 7, 1, {"v": 9})]), [7])
        self.assertEqual(plain.piece(7)["bag"], bag_rows(1, 9, 3))
        self.assertEqual(plain.write([("set", "main", 7, 0, main_row(0, 12, "t"))]), [7])
        self.assertEqual(plain.row("main", 7), main_row(0, 12, "t"))

    def test_things_that_no_step_names_stay(self):
        plain = self.filled()
        before = [plain.piece(2), plain.piece(12)]
        plain.write([("set", "bag", 7, 1, {"v": 9}), ("add", "lines", 7, 2, {"line": "z"})])
        self.assertEqual([plain.piece(2), plain.piece(12)], before)

    def test_add_and_cut_at_the_end(self):
        plain = self.filled()
        self.assertEqual(plain.write([("add", "bag", 7, 3, {"v": 4})]), [7])
        self.assertEqual(plain.piece(7)["bag"], bag_rows(1, 2, 3, 4))
        self.assertEqual(plain.write([("cut", "bag", 7, 3), ("cut", "bag", 7, 2)]), [7])
        self.assertEqual(plain.piece(7)["bag"], bag_rows(1, 2))
        self.assertEqual(plain.write([("cut", "bag", 7, 0), ("cut", "bag", 7, 1)]), [7])
        self.assertEqual(plain.piece(7)["bag"], [])

    def test_a_row_amid_others_goes(self):
        plain = self.filled()
        plain.write([("set", "bag", 7, 0, {"v": 2}), ("set", "bag", 7, 1, {"v": 3}), ("cut", "bag", 7, 2)])
        self.assertEqual(plain.piece(7)["bag"], bag_rows(2, 3))

    def test_more_than_ten_rows_stand_by_their_places(self):
        plain = self.filled()
        places = [10, 2, 11, 0, 5, 1, 9, 3, 8, 4, 7, 6]
        plain.write([("add", "bag", 2, place, {"v": place * place}) for place in places])
        self.assertEqual(plain.piece(2)["bag"], bag_rows(*[place * place for place in range(12)]))

    def test_no_steps(self):
        for plain in [Plain(FORM), self.filled()]:
            before = state_of(plain)
            self.assertEqual(plain.write([]), [])
            self.assertEqual(state_of(plain), before)

    def test_it_tells_the_keys_each_once_rising(self):
        plain = self.filled()
        steps = adds_of(11, thing_of(1)) + [("set", "bag", 7, 0, {"v": 0})] + adds_of(9, thing_of(2))
        steps = steps + cuts_of(2, plain.piece(2)) + [("set", "bag", 7, 1, {"v": 0})] + adds_of(10, thing_of(3))
        told = plain.write(steps)
        self.assertIsInstance(told, list)
        self.assertEqual(told, [2, 7, 9, 10, 11])
        told.clear()
        self.assertEqual(plain.held(), [7, 9, 10, 11, 12])

    def test_a_step_that_ends_where_it_began_names_its_key(self):
        plain = self.filled()
        self.assertEqual(plain.write([("set", "main", 12, 0, plain.row("main", 12))]), [12])
        self.assertEqual(plain.write([("add", "bag", 7, 3, {"v": 1}), ("cut", "bag", 7, 3)]), [7])

    def test_each_step_meets_what_the_steps_ahead_left(self):
        plain = self.filled()
        self.refused_write(plain, Taken, ("bag", 7, 3), [("add", "bag", 7, 3, {"v": 1}), ("add", "bag", 7, 3, {"v": 1})])
        self.refused_write(plain, Missing, ("bag", 7, 2), [("cut", "bag", 7, 2), ("cut", "bag", 7, 2)])
        self.refused_write(plain, Missing, ("bag", 7, 2), [("cut", "bag", 7, 2), ("set", "bag", 7, 2, {"v": 1})])
        steps = [("cut", "bag", 7, 2), ("add", "bag", 7, 2, {"v": 8}), ("set", "bag", 7, 2, {"v": 9})]
        self.assertEqual(plain.write(steps), [7])
        self.assertEqual(plain.piece(7)["bag"], bag_rows(1, 2, 9))

    def test_later_steps_mend_earlier_ones(self):
        plain = self.filled()
        steps = [
            ("cut", "main", 7, 0), ("cut", "twin", 7, 0), ("cut", "bag", 7, 0), ("cut", "lines", 7, 0),
            ("cut", "lines", 7, 1), ("add", "bag", 7, 5, {"v": 6}), ("add", "bag", 7, 4, {"v": 5}),
            ("add", "bag", 7, 3, {"v": 4}), ("add", "bag", 7, 0, {"v": 0}), ("add", "lines", 7, 0, {"line": "z"}),
            ("add", "twin", 7, 0, {"n": 2}), ("add", "main", 7, 0, main_row(20)), ("set", "main", 2, 0, main_row(70, 12)),
        ]
        self.assertEqual(plain.write(steps), [2, 7])
        self.assertEqual(plain.piece(7)["bag"], bag_rows(0, 2, 3, 4, 5, 6))
        self.assertEqual(plain.rows("main"), [(2, 0, main_row(70, 12)), (7, 0, main_row(20)), (12, 0, main_row(120, 12))])

    def test_a_row_far_behind_that_goes_again(self):
        plain = self.filled()
        far = 10 ** 300 - 1
        steps = [("add", "bag", 7, far, {"v": 0}), ("set", "bag", 7, far, {"v": 1}), ("cut", "bag", 7, far)]
        self.assertEqual(plain.write(steps), [7])
        self.assertEqual(plain.piece(7)["bag"], bag_rows(1, 2, 3))

    def test_steps_are_not_changed_and_change_nothing(self):
        plain = Plain(FORM)
        steps = adds_of(3, thing_of(5, None, (1,))) + [("set", "bag", 3, 0, {"v": 2})]
        before = copy.deepcopy(steps)
        plain.write(steps)
        self.assertEqual(steps, before)
        state = copy.deepcopy(state_of(plain))
        for step in steps:
            step[4].clear()
        steps.clear()
        self.assertEqual(state_of(plain), state)

    def test_one_row_in_several_steps(self):
        plain = Plain(FORM)
        row = {"v": 1}
        plain.write(adds_of(3, thing_of(5)) + [("add", "bag", 3, 0, row), ("add", "bag", 3, 1, row)])
        row["v"] = 2
        self.assertEqual(plain.piece(3)["bag"], bag_rows(1, 1))
        plain.write([("set", "bag", 3, 0, row)])
        self.assertEqual(plain.piece(3)["bag"], bag_rows(2, 1))


class TestStepsRefused(PlainCase):
    def test_no_table(self):
        plain = self.filled()
        for table in ["none", "mai", "mainly", "at", "head", ""]:
            for key, place, row in [(7, 0, {"v": 1}), (99, 0, {}), (True, -1, None), (None, "x", {}), (0, 0, {})]:
                self.refused_write(plain, NoTable, (table, key, place), [("add", table, key, place, row)])
                self.refused_write(plain, NoTable, (table, key, place), [("set", table, key, place, row)])
                self.refused_write(plain, NoTable, (table, key, place), [("cut", table, key, place)])

    def test_a_key_that_is_none(self):
        plain = self.filled()
        keys = [-1, 20, 21, -20, 10 ** 300 - 1, True, False, None, "7", (7,), [7], {7: 7}, 7.0]
        for key in keys:
            for table, row in [("main", main_row(1)), ("bag", {"v": 1}), ("lines", {"line": ""}), ("twin", {"n": 1})]:
                with self.subTest(key=key, table=table):
                    self.refused_write(plain, BadRow, (table, key, 0), [("add", table, key, 0, row)])
                    self.refused_write(plain, BadRow, (table, key, 0), [("set", table, key, 0, row)])
                    self.refused_write(plain, BadRow, (table, key, 0), [("cut", table, key, 0)])

    def test_keys_at_the_edges_of_the_size(self):
        plain = Plain(FORM)
        self.assertEqual(plain.write(adds_of(19, thing_of(1)) + adds_of(0, thing_of(2))), [0, 19])
        great = Plain(form_of(10 ** 12, [("main", "head", {})]))
        self.assertEqual(great.write([("add", "main", 10 ** 12 - 1, 0, {})]), [10 ** 12 - 1])
        self.refused_write(great, BadRow, ("main", 10 ** 12, 0), [("add", "main", 10 ** 12, 0, {})], ["main"])

    def test_a_place_that_is_none(self):
        plain = self.filled()
        for place in [-1, -2, -10 ** 299, True, False, None, "0", (0,), [0], {}, 0.0]:
            for table, row in [("main", main_row(1)), ("bag", {"v": 1}), ("lines", {"line": ""}), ("twin", {"n": 1})]:
                with self.subTest(place=place, table=table):
                    self.refused_write(plain, BadRow, (table, 7, place), [("add", table, 7, place, row)])
                    self.refused_write(plain, BadRow, (table, 7, place), [("set", table, 7, place, row)])
                    self.refused_write(plain, BadRow, (table, 7, place), [("cut", table, 7, place)])

    def test_a_place_behind_nought_in_a_head_or_twin_table(self):
        plain = self.filled()
        for place in [1, 2, 10 ** 299]:
            for key in [7, 3]:
                for table, row in [("main", main_row(1)), ("twin", {"n": 1})]:
                    with self.subTest(place=place, table=table, key=key):
                        self.refused_write(plain, BadRow, (table, key, place), [("add", table, key, place, row)])
                        self.refused_write(plain, BadRow, (table, key, place), [("set", table, key, place, row)])
                        self.refused_write(plain, BadRow, (table, key, place), [("cut", table, key, place)])

    def test_a_row_that_is_none(self):
        plain = self.filled()
        bad = {
            "main": [{}, main_row(None), main_row(1, 20), main_row(1, -1), main_row(1, True), main_row(1, None, 5), None,
                     {"at": None, "no": 1}, {"at": None, "no": 1, "text": "", "more": 1}, [], (), "", 0, {"v": 1}],
            "twin": [{"n": 3}, {"n": -1}, {"n": True}, {}, {"n": 1, "m": 1}, {"m": 1}, None, [("n", 1)]],
            "bag": [{"v": "1"}, {"v": None}, {}, {"v": 1, "w": 1}, None, 1, [1], (), True],
            "lines": [{"line": 1}, {"line": ("a",)}, {}, None, "line"],
        }
        for table, rows in bad.items():
            for row in rows:
                for key, place in [(7, 0), (3, 0)]:
                    with self.subTest(table=table, row=row, key=key):
                        self.refused_write(plain, BadRow, (table, key, place), [("add", table, key, place, row)])
                        self.refused_write(plain, BadRow, (table, key, place), [("set", table, key, place, row)])

    def test_taken(self):
        plain = self.filled()
        for table, place, row in [("main", 0, main_row(1)), ("twin", 0, {"n": 1}), ("bag", 0, {"v": 1}),
                                  ("bag", 2, {"v": 3}), ("lines", 1, {"line": "b"})]:
            self.refused_write(plain, Taken, (table, 7, place), [("add", table, 7, place, row)])

    def test_missing(self):
        plain = self.filled()
        for table, key, place, row in [("main", 3, 0, main_row(1)), ("twin", 3, 0, {"n": 1}), ("bag", 7, 3, {"v": 1}),
                                       ("bag", 2, 0, {"v": 3}), ("lines", 2, 1, {"line": "b"}),
                                       ("bag", 7, 10 ** 299, {"v": 3})]:
            self.refused_write(plain, Missing, (table, key, place), [("set", table, key, place, row)])
            self.refused_write(plain, Missing, (table, key, place), [("cut", table, key, place)])

    def test_the_first_step_that_is_refused_is_told(self):
        plain = self.filled()
        faults = [
            (NoTable, ("add", "none", 7, 0, {})), (BadRow, ("set", "bag", 20, 0, {"v": 1})),
            (Taken, ("add", "bag", 7, 1, {"v": 1})), (Missing, ("cut", "bag", 7, 9)),
        ]
        for error, step in faults:
            for other, behind in faults:
                self.refused_write(plain, error, step[1:4], [("set", "bag", 7, 0, {"v": 5}), step, behind])

    def test_steps_are_refused_ahead_of_rules(self):
        plain = self.filled()
        for fault in [("cut", "main", 2, 0), ("add", "bag", 2, 4, {"v": 1}), ("set", "main", 2, 0, main_row(70)),
                      ("set", "main", 2, 0, main_row(1, 5))]:
            self.refused_write(plain, Missing, ("bag", 12, 8), [fault, ("cut", "bag", 12, 8)])
            self.refused_write(plain, NoTable, ("none", 12, 8), [fault, ("cut", "none", 12, 8)])

    def test_a_refused_write_leaves_nothing_of_its_steps(self):
        plain = self.filled()
        steps = cuts_of(2, plain.piece(2)) + adds_of(3, thing_of(1)) + [
            ("set", "bag", 7, 0, {"v": 100}), ("cut", "lines", 7, 1), ("add", "bag", 12, 1, {"v": 8}),
        ]
        self.refused_write(plain, Taken, ("main", 12, 0), steps + [("add", "main", 12, 0, main_row(9))])
        self.refused_write(plain, Lone, ("main", 1, 0), steps + [("add", "bag", 1, 0, {"v": 1})])
        self.refused_write(plain, Twice, ("main", 7, 0), steps + [("set", "main", 7, 0, main_row(1))])
        self.refused_write(plain, Nowhere, ("main", 7, 0), steps + [("set", "main", 7, 0, main_row(70, 2))])
        self.assertEqual(plain.write(steps), [2, 3, 7, 12])
        self.assertEqual(plain.held(), [3, 7, 12])


class TestThingsByThemselves(PlainCase):
    def test_a_thing_without_its_head_row(self):
        plain = self.filled()
        self.refused_write(plain, Lone, ("main", 7, 0), [("cut", "main", 7, 0)])
        self.refused_write(plain, Lone, ("main", 3, 0), [("add", "bag", 3, 0, {"v": 1})])
        self.refused_write(plain, Lone, ("main", 3, 0), adds_of(3, thing_of(1), ("twin", "lines")))

    def test_a_thing_without_its_twin_row(self):
        plain = self.filled()
        self.refused_write(plain, Lone, ("twin", 7, 0), [("cut", "twin", 7, 0)])
        self.refused_write(plain, Lone, ("twin", 3, 0), adds_of(3, thing_of(1), ("main", "lines")))

    def test_any_row_that_is_left_makes_a_thing(self):
        plain = self.filled()
        piece = plain.piece(7)
        every = cuts_of(7, piece)
        for left in every:
            steps = [step for step in every if step != left]
            told = {"main": (Gap, ("lines", 7, 0)), "bag": (Lone, ("main", 7, 0)), "lines": (Lone, ("main", 7, 0)),
                    "twin": (Lone, ("main", 7, 0))}
            self.refused_write(plain, told[left[1]][0], told[left[1]][1], steps)

    def test_a_some_table_without_rows(self):
        plain = self.filled()
        self.refused_write(plain, Gap, ("lines", 2, 0), [("cut", "lines", 2, 0)])
        self.refused_write(plain, Gap, ("lines", 7, 0), [("cut", "lines", 7, 0), ("cut", "lines", 7, 1)])
        self.refused_write(plain, Gap, ("lines", 3, 0), adds_of(3, thing_of(1), ("main", "twin")))

    def test_a_many_table_without_rows(self):
        plain = self.filled()
        self.assertEqual(plain.write([("cut", "bag", 12, 0)]), [12])
        self.assertEqual(plain.piece(12)["bag"], [])

    def test_a_gap(self):
        plain = self.filled()
        self.refused_write(plain, Gap, ("bag", 7, 0), [("cut", "bag", 7, 0)])
        self.refused_write(plain, Gap, ("bag", 7, 1), [("cut", "bag", 7, 1)])
        self.refused_write(plain, Gap, ("bag", 7, 0), [("cut", "bag", 7, 0), ("cut", "bag", 7, 1)])
        self.refused_write(plain, Gap, ("lines", 7, 0), [("cut", "lines", 7, 0)])
        self.refused_write(plain, Gap, ("lines", 12, 1), [("cut", "lines", 12, 1)])
        self.refused_write(plain, Gap, ("bag", 2, 0), [("add", "bag", 2, 1, {"v": 1})])
        self.refused_write(plain, Gap, ("bag", 7, 3), [("add", "bag", 7, 4, {"v": 1})])
        self.refused_write(plain, Gap, ("lines", 2, 1), [("add", "lines", 2, 10 ** 300 - 1, {"line": ""})])

    def test_the_least_place_that_lacks(self):
        plain = self.filled()
        steps = [("add", "bag", 7, 8, {"v": 1}), ("add", "bag", 7, 5, {"v": 1}), ("add", "bag", 7, 3, {"v": 1})]
        self.refused_write(plain, Gap, ("bag", 7, 4), steps)
        self.refused_write(plain, Gap, ("bag", 7, 1), steps + [("cut", "bag", 7, 1)])

    def test_the_least_key_goes_first(self):
        plain = self.filled()
        faults = [("cut", "main", 12, 0), ("cut", "lines", 7, 0), ("cut", "twin", 2, 0)]
        self.refused_write(plain, Lone, ("twin", 2, 0), faults)
        self.refused_write(plain, Gap, ("lines", 7, 0), faults[:2])
        self.refused_write(plain, Lone, ("main", 12, 0), faults[:1])
        self.refused_write(plain, Gap, ("bag", 9, 0), adds_of(10, thing_of(1), ("twin",))
                           + adds_of(9, thing_of(2)) + [("add", "bag", 9, 1, {"v": 1})])

    def test_the_tables_go_in_the_order_of_the_form(self):
        plain = self.filled()
        faults = [("cut", "twin", 7, 0), ("cut", "lines", 7, 0), ("cut", "bag", 7, 0), ("cut", "main", 7, 0)]
        self.refused_write(plain, Lone, ("main", 7, 0), faults)
        self.refused_write(plain, Gap, ("bag", 7, 0), faults[:3])
        self.refused_write(plain, Gap, ("lines", 7, 0), faults[:2])
        self.refused_write(plain, Lone, ("twin", 7, 0), faults[:1])

    def test_the_head_goes_first_whatever_its_name(self):
        form = form_of(5, [("z", "head", {}), ("a", "twin", {}), ("b", "some", {})])
        plain = Plain(form)
        tables = ["z", "a", "b"]
        self.refused_write(plain, Lone, ("z", 1, 0), [("add", "b", 1, 1, {})], tables)
        self.refused_write(plain, Lone, ("a", 1, 0), [("add", "b", 1, 1, {}), ("add", "z", 1, 0, {})], tables)
        steps = [("add", "b", 1, 1, {}), ("add", "z", 1, 0, {}), ("add", "a", 1, 0, {})]
        self.refused_write(plain, Gap, ("b", 1, 0), steps, tables)
        self.refused_write(plain, Gap, ("b", 1, 0), steps[1:], tables)

    def test_things_by_themselves_go_ahead_of_the_other_rules(self):
        plain = self.filled()
        twice = ("set", "main", 2, 0, main_row(70))
        nowhere = ("set", "main", 2, 0, main_row(1, 5))
        for fault in [twice, nowhere]:
            self.refused_write(plain, Gap, ("lines", 12, 0), [fault, ("cut", "lines", 12, 0)])
            self.refused_write(plain, Lone, ("twin", 12, 0), [fault, ("cut", "twin", 12, 0)])


class TestOnce(PlainCase):
    def test_the_row_that_stands_later_is_told(self):
        plain = self.filled()
        self.refused_write(plain, Twice, ("main", 7, 0), [("set", "main", 2, 0, main_row(70))])
        self.refused_write(plain, Twice, ("main", 7, 0), [("set", "main", 7, 0, main_row(20))])
        self.refused_write(plain, Twice, ("main", 12, 0), adds_of(1, thing_of(120)))
        self.refused_write(plain, Twice, ("main", 13, 0), adds_of(13, thing_of(120)))

    def test_the_first_of_several(self):
        plain = self.filled()
        self.refused_write(plain, Twice, ("main", 7, 0), adds_of(1, thing_of(120)) + adds_of(3, thing_of(70)))
        self.refused_write(plain, Twice, ("main", 3, 0), adds_of(13, thing_of(120)) + adds_of(3, thing_of(20)))
        self.refused_write(plain, Twice, ("main", 9, 0), adds_of(10, thing_of(2)) + adds_of(9, thing_of(20)))

    def test_values_are_exchanged_in_one_write(self):
        plain = self.filled()
        self.assertEqual(plain.write([("set", "main", 2, 0, main_row(70)), ("set", "main", 7, 0, main_row(20))]), [2, 7])

    def test_a_value_of_a_thing_that_went_is_free(self):
        plain = self.filled()
        self.assertEqual(plain.write(adds_of(3, thing_of(20)) + cuts_of(2, plain.piece(2))), [2, 3])
        self.assertEqual(plain.row("main", 3)["no"], 20)

    def test_a_row_keeps_its_own_value(self):
        plain = self.filled()
        self.assertEqual(plain.write([("set", "main", 2, 0, main_row(20, 7, "new"))]), [2])

    def test_rows_of_side_tables_by_key_then_place(self):
        form = form_of(20, [("main", "head", {}), ("side", "many", {"no": ("once", ("word",))})])

        def things(**texts):
            return {int(key[1:]): {"main": [{}], "side": [{"no": text} for text in told]} for key, told in texts.items()}

        tables = ["main", "side"]
        plain = Plain(form, things(k3="abc", k10="de"))
        self.refused_write(plain, Twice, ("side", 3, 2), [("set", "side", 3, 0, {"no": "c"})], tables)
        self.refused_write(plain, Twice, ("side", 3, 3), [("add", "side", 3, 3, {"no": "a"})], tables)
        self.refused_write(plain, Twice, ("side", 10, 0), [("set", "side", 3, 2, {"no": "d"})], tables)
        self.refused_write(plain, Twice, ("side", 10, 1), [("set", "side", 10, 1, {"no": "b"})], tables)
        self.refused(Twice, ("side", 4, 1), Plain, form, things(k11="a", k4="bb", k2="c"))
        self.refused(Twice, ("side", 9, 0), Plain, form, things(k10="b", k9="bc", k2="bd"))
        self.assertEqual(Plain(form, things(k1="", k2="ab", k3="cd")).held(), [1, 2, 3])

    def test_tables_then_columns_then_rows(self):
        columns = {"b": ("once", ("whole",)), "a": ("once", ("whole",)), "c": ("whole",)}
        form = form_of(20, [("z", "head", columns), ("y", "many", columns), ("x", "twin", columns)])

        def made(z, y, x):
            things = {}
            for key in (8, 2, 5):
                rows = [z[key], y[key], x[key]]
                piece = [[{"a": a, "b": b, "c": 0}] for a, b in rows]
                things[key] = {"z": piece[0], "y": piece[1], "x": piece[2]}
            return Plain(form, things)

        good = {2: (1, 5), 5: (2, 6), 8: (3, 7)}
        late_a = {2: (1, 5), 5: (2, 6), 8: (1, 7)}
        early_b = {2: (1, 5), 5: (2, 5), 8: (3, 7)}
        both = {2: (1, 5), 5: (2, 5), 8: (1, 7)}
        across = {2: (1, 2), 5: (2, 3), 8: (3, 1)}
        self.assertEqual(made(good, good, good).held(), [2, 5, 8])
        self.assertEqual(made(across, across, across).held(), [2, 5, 8])
        self.refused(Twice, ("z", 8, 0), made, both, both, both)
        self.refused(Twice, ("z", 5, 0), made, early_b, late_a, late_a)
        self.refused(Twice, ("x", 8, 0), made, good, early_b, late_a)
        self.refused(Twice, ("x", 8, 0), made, good, early_b, both)
        self.refused(Twice, ("y", 8, 0), made, good, both, good)
        self.refused(Twice, ("y", 5, 0), made, good, early_b, good)

    def test_columns_that_are_not_once_are_not_asked(self):
        plain = Plain(FORM)
        plain.write(adds_of(3, thing_of(1, None, (4, 4), ("a", "a"))) + adds_of(4, thing_of(2, None, (4,), ("a",))))
        self.assertEqual(plain.held(), [3, 4])


class TestPointers(PlainCase):
    def test_a_pointer_to_nothing(self):
        plain = self.filled()
        self.refused_write(plain, Nowhere, ("main", 2, 0), [("set", "main", 2, 0, main_row(20, 8))])
        self.refused_write(plain, Nowhere, ("main", 3, 0), adds_of(3, thing_of(1, 0)))
        self.refused_write(plain, Nowhere, ("main", 3, 0), adds_of(3, thing_of(1, 19)))

    def test_pointers_that_are_good(self):
        plain = self.filled()
        self.assertEqual(plain.write([("set", "main", 2, 0, main_row(20, 2))]), [2])
        self.assertEqual(plain.write([("set", "main", 2, 0, main_row(20, None))]), [2])
        self.assertEqual(plain.write(adds_of(4, thing_of(1, 5)) + adds_of(5, thing_of(2, 4))), [4, 5])
        self.assertEqual(plain.write(adds_of(0, thing_of(3, 0))), [0])
        self.assertEqual(plain.write([("set", "main", 2, 0, main_row(20, 0))]), [2])

    def test_who_cuts_a_thing_is_told_the_row_that_points(self):
        plain = self.filled()
        self.refused_write(plain, Nowhere, ("main", 2, 0), cuts_of(7, plain.piece(7)))
        plain.write([("set", "main", 12, 0, main_row(120, 7))])
        self.refused_write(plain, Nowhere, ("main", 2, 0), cuts_of(7, plain.piece(7)))
        plain.write([("set", "main", 2, 0, main_row(20, None))])
        self.refused_write(plain, Nowhere, ("main", 12, 0), cuts_of(7, plain.piece(7)))
        steps = [("set", "main", 12, 0, main_row(120, 2))] + cuts_of(7, plain.piece(7))
        self.assertEqual(plain.write(steps), [7, 12])

    def test_things_that_point_to_one_another_go_together(self):
        plain = Plain(FORM, {4: thing_of(1, 5), 5: thing_of(2, 4), 6: thing_of(3, 6)})
        self.refused_write(plain, Nowhere, ("main", 4, 0), cuts_of(5, plain.piece(5)))
        self.refused_write(plain, Nowhere, ("main", 5, 0), cuts_of(4, plain.piece(4)))
        self.assertEqual(plain.write(cuts_of(4, plain.piece(4)) + cuts_of(5, plain.piece(5))), [4, 5])
        self.assertEqual(plain.write(cuts_of(6, plain.piece(6))), [6])
        self.assertEqual(plain.held(), [])

    def test_tables_then_columns_then_rows(self):
        columns = {"b": ("key",), "a": ("key",), "c": ("whole",), "d": ("once", ("whole",))}
        form = form_of(20, [("z", "head", columns), ("y", "many", columns), ("x", "some", columns)])

        def made(z, y, x):
            things = {}
            for key in (10, 2, 5):
                told = {"z": z[key], "y": y[key], "x": x[key]}
                things[key] = {}
                for table, pairs in told.items():
                    rows = [{"a": pair[0], "b": pair[1], "c": 19, "d": key * 9 + at} for at, pair in enumerate(pairs)]
                    things[key][table] = rows
            return Plain(form, things)

        good = {2: [(2, 5)], 5: [(None, 10)], 10: [(10, 2)]}
        wide = {2: [(2, 5), (None, None)], 5: [(2, 2), (5, 5), (10, None)], 10: [(None, 10)]}
        late_a = {2: [(2, 5)], 5: [(None, 10)], 10: [(2, None), (1, None)]}
        early_b = {2: [(2, 5), (2, 6), (2, 7)], 5: [(5, 5)], 10: [(2, 5)]}
        both = {2: [(2, 5), (2, 6)], 5: [(2, None)], 10: [(0, 5)]}
        self.assertEqual(made(good, wide, wide).held(), [2, 5, 10])
        self.refused(Nowhere, ("y", 10, 1), made, good, late_a, good)
        self.refused(Nowhere, ("y", 2, 1), made, good, early_b, good)
        self.refused(Nowhere, ("y", 10, 0), made, good, both, wide)
        self.refused(Nowhere, ("x", 10, 1), made, good, early_b, late_a)
        self.refused(Nowhere, ("x", 2, 1), made, good, late_a, early_b)
        self.refused(Nowhere, ("z", 10, 0), made, {2: [(2, 5)], 5: [(5, 6)], 10: [(1, 5)]}, both, both)
        self.refused(Nowhere, ("z", 5, 0), made, {2: [(2, 5)], 5: [(5, 6)], 10: [(5, 1)]}, both, both)

    def test_once_goes_ahead(self):
        plain = self.filled()
        self.refused_write(plain, Twice, ("main", 7, 0), [("set", "main", 2, 0, main_row(70, 5))])
        steps = [("set", "main", 12, 0, main_row(70, 12)), ("set", "main", 2, 0, main_row(20, 5))]
        self.refused_write(plain, Twice, ("main", 12, 0), steps)

    def test_numbers_that_are_no_pointers_are_not_asked(self):
        plain = Plain(FORM, {3: thing_of(15, None, (16, 17))})
        self.assertEqual(plain.held(), [3])


class TestAsked(PlainCase):
    def test_row(self):
        plain = self.filled()
        self.assertEqual(plain.row("main", 2, 0), main_row(20, 7))
        self.assertEqual(plain.row("main", 2), main_row(20, 7))
        self.assertEqual(plain.row("bag", 7), {"v": 1})
        self.assertEqual([plain.row("bag", 7, place) for place in range(3)], bag_rows(1, 2, 3))
        self.assertEqual(plain.row(table="lines", key=12, place=2), {"line": "f"})

    def test_row_refused(self):
        plain = self.filled()
        far = 10 ** 300 - 1
        for key, place in [(7, 3), (7, -1), (7, -3), (7, far), (7, -far), (2, 0), (2, -1), (3, 0), (-1, 0), (20, 0), (-7, 0),
                           (far, 0), (-far, 0), (19, 0), (0, 0), (-1, -1)]:
            self.refused(Missing, ("bag", key, place), plain.row, "bag", key, place)
        for key, place in [(7, 1), (7, -1), (3, 0), (-1, 0), (20, 0), (0, 0)]:
            self.refused(Missing, ("main", key, place), plain.row, "main", key, place)
            self.refused(Missing, ("twin", key, place), plain.row, "twin", key, place)
        self.refused(Missing, ("lines", 3, 0), plain.row, "lines", 3)
        for key, place in [(7, 0), (3, 5), (-1, -1), (far, far)]:
            self.refused(NoTable, ("none", key, place), plain.row, "none", key, place)
        self.refused(NoTable, ("none", 7, 0), plain.row, "none", 7)

    def test_rows(self):
        plain = self.filled()
        self.assertEqual(plain.rows("main"), [(2, 0, main_row(20, 7)), (7, 0, main_row(70)), (12, 0, main_row(120, 12))])
        self.assertEqual(plain.rows("twin"), [(2, 0, {"n": 0}), (7, 0, {"n": 0}), (12, 0, {"n": 0})])
        self.assertEqual(plain.rows("lines"), [
            (2, 0, {"line": "c"}), (7, 0, {"line": "a"}), (7, 1, {"line": "b"}),
            (12, 0, {"line": "d"}), (12, 1, {"line": "e"}), (12, 2, {"line": "f"}),
        ])
        self.assertIsInstance(plain.rows("main"), list)
        self.assertIsInstance(plain.rows("main")[0], tuple)

    def test_rows_rise_behind_writes_too(self):
        plain = self.filled()
        plain.write(adds_of(19, thing_of(1)) + adds_of(10, thing_of(2)) + adds_of(0, thing_of(3)) + adds_of(9, thing_of(4)))
        self.assertEqual([key for key, place, row in plain.rows("main")], [0, 2, 7, 9, 10, 12, 19])
        self.assertEqual(plain.held(), [0, 2, 7, 9, 10, 12, 19])

    def test_rows_refused(self):
        plain = self.filled()
        for table in ["none", "at", "mai", ""]:
            self.refused(NoTable, (table, None, None), plain.rows, table)

    def test_piece(self):
        plain = self.filled()
        self.assertEqual(plain.piece(12), thing_of(120, 12, (5,), ("d", "e", "f")))
        self.assertEqual(plain.piece(2), thing_of(20, 7, (), ("c",)))
        for key in [3, 0, -1, -7, 19, 20, 10 ** 300 - 1]:
            self.refused(Missing, ("main", key, 0), plain.piece, key)

    def test_held(self):
        self.assertEqual(self.filled().held(), [2, 7, 12])
        self.assertIsInstance(self.filled().held(), list)

    def test_what_is_told_is_the_askers_own(self):
        plain = self.filled()
        before = copy.deepcopy(state_of(plain))
        plain.row("main", 7)["no"] = 1
        plain.row("bag", 7, 1).clear()
        rows = plain.rows("bag")
        rows[0][2]["v"] = 99
        rows.clear()
        piece = plain.piece(7)
        piece["bag"][0]["v"] = 99
        piece["bag"].pop()
        piece["lines"].append({"line": "x"})
        piece.pop("main")
        plain.held().append(4)
        plain.held().clear()
        self.assertEqual(state_of(plain), before)

    def test_what_was_told_stays_behind_writes(self):
        plain = self.filled()
        told = [plain.row("bag", 7, 1), plain.rows("bag"), plain.rows("main"), plain.piece(7), plain.held()]
        before = copy.deepcopy(told)
        plain.write([("set", "bag", 7, 1, {"v": 55}), ("cut", "bag", 7, 2), ("add", "lines", 7, 2, {"line": "q"}),
                     ("set", "main", 7, 0, main_row(71))])
        plain.write(cuts_of(2, plain.piece(2)) + adds_of(3, thing_of(1)))
        self.assertEqual(told, before)

    def test_asking_changes_nothing(self):
        plain = self.filled()
        before = copy.deepcopy(state_of(plain))
        self.refused(Missing, ("bag", 3, 0), plain.row, "bag", 3)
        self.refused(Missing, ("main", 3, 0), plain.piece, 3)
        self.refused(NoTable, ("none", None, None), plain.rows, "none")
        self.assertEqual(state_of(plain), before)


class TestLeastForm(PlainCase):
    def test_a_head_without_columns(self):
        plain = Plain(form_of(1, [("a", "head", {})]))
        self.assertEqual(plain.write([("add", "a", 0, 0, {})]), [0])
        self.refused_write(plain, Taken, ("a", 0, 0), [("add", "a", 0, 0, {})], ["a"])
        self.refused_write(plain, BadRow, ("a", 1, 0), [("add", "a", 1, 0, {})], ["a"])
        self.assertEqual(plain.rows("a"), [(0, 0, {})])
        self.assertEqual(plain.piece(0), {"a": [{}]})
        self.assertEqual(plain.write([("cut", "a", 0, 0)]), [0])
        self.assertEqual(plain.held(), [])
        self.refused_write(plain, Missing, ("a", 0, 0), [("cut", "a", 0, 0)], ["a"])


if __name__ == "__main__":
    unittest.main()
