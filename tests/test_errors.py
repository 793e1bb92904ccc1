"""Point 17 and the interface of errors: which class stands under which, and the fields."""

import unittest

from halfmoved import errors

STEP_NAMES = ["NoTable", "BadRow", "Taken", "Missing", "Lone", "Gap", "Twice", "Nowhere"]
TEXT_NAMES = ["NoForm", "NoText", "TooMany", "NotDone", "NoRow"]
ABOVE = {"TableError": [], "StepError": ["TableError"], "NoMove": ["TableError"]}
ABOVE.update({name: ["StepError", "TableError"] for name in STEP_NAMES})
ABOVE.update({name: ["TableError"] for name in TEXT_NAMES})


def class_of(name):
    return getattr(errors, name)


class TestWhichStandsUnderWhich(unittest.TestCase):
    def test_every_pair_of_classes(self):
        for name in ABOVE:
            for other in ABOVE:
                with self.subTest(name=name, other=other):
                    told = other == name or other in ABOVE[name]
                    self.assertIs(issubclass(class_of(name), class_of(other)), told)

    def test_straight_above_stands_one_class(self):
        self.assertEqual(errors.TableError.__bases__, (ValueError,))
        for name in ABOVE:
            if ABOVE[name]:
                with self.subTest(name=name):
                    self.assertEqual(class_of(name).__bases__, (class_of(ABOVE[name][0]),))

    def test_no_class_stands_under_another_error_of_python(self):
        for name in ABOVE:
            for other in (KeyError, IndexError, LookupError, TypeError, ArithmeticError, RuntimeError, UnicodeError):
                with self.subTest(name=name, other=other):
                    self.assertFalse(issubclass(class_of(name), other))

    def test_every_class_is_its_own(self):
        self.assertEqual(len({class_of(name) for name in ABOVE}), len(ABOVE))


class TestFields(unittest.TestCase):
    def test_step_errors_carry_table_key_and_place(self):
        for name in ["StepError"] + STEP_NAMES:
            for fields in [("main", 3, 0), ("side", 0, 7), ("none", None, None), (1, "two", [3]), (None, True, -1)]:
                with self.subTest(name=name, fields=fields):
                    error = class_of(name)(*fields)
                    self.assertEqual((error.table, error.key, error.place), fields)

    def test_step_errors_take_their_arguments_by_name(self):
        for name in ["StepError"] + STEP_NAMES:
            with self.subTest(name=name):
                error = class_of(name)(place=2, key=1, table="main")
                self.assertEqual((error.table, error.key, error.place), ("main", 1, 2))

    def test_the_fields_of_two_errors_are_apart(self):
        one = errors.Gap("main", 1, 2)
        other = errors.Gap("side", 3, 4)
        self.assertEqual((one.table, one.key, one.place), ("main", 1, 2))
        self.assertEqual((other.table, other.key, other.place), ("side", 3, 4))

    def test_no_move_carries_the_move(self):
        self.assertEqual(errors.NoMove().move, 0)
        self.assertEqual(errors.NoMove(0).move, 0)
        self.assertEqual(errors.NoMove(5).move, 5)
        self.assertEqual(errors.NoMove(move=7).move, 7)

    def test_no_move_has_its_own_field_in_each_object(self):
        one = errors.NoMove(3)
        self.assertEqual(errors.NoMove().move, 0)
        self.assertEqual(one.move, 3)

    def test_the_others_are_made_of_a_text_or_of_nothing(self):
        for name in TEXT_NAMES:
            with self.subTest(name=name):
                self.assertIsInstance(class_of(name)(), errors.TableError)
                self.assertIsInstance(class_of(name)("some words"), errors.TableError)

    def test_they_are_raised_and_taken(self):
        for name in STEP_NAMES:
            with self.subTest(name=name):
                with self.assertRaises(errors.StepError) as caught:
                    raise class_of(name)("main", 1, 2)
                self.assertEqual(caught.exception.place, 2)
        for name in TEXT_NAMES + ["NoMove"]:
            with self.subTest(name=name):
                with self.assertRaises(errors.TableError):
                    raise class_of(name)()


if __name__ == "__main__":
    unittest.main()
