"""Points 2, 10 and 11: whole numbers, names, kinds, and the values that fit them."""

import unittest

from halfmoved.kinds import fits, is_kind, is_name, is_plain, is_whole

HUGE = 10 ** 300 - 1

WHOLES = [0, 1, -1, 7, 10 ** 12, HUGE, -HUGE]
ODD_THINGS = [
    True, False, None, 1.0, 0.5, (), [], {}, (1,), [1], {1: 1}, (None,), [None], ((),), [[]], ([],), ({},), [()], {"a": []},
    (True,), [True], {"a": {"b": [(1, None)]}}, ([1, (2, {"c": None})], "d"), (("whole",),), [("whole",)],
    {("whole",): ("whole",)}, ((("whole",),),), (None, None), ([], []), ({}, {}),
]
TEXTS = ["", "0", "-1", "whole", "key", "a", "True", "None", " ", "x y", "a" * 300]

PLAIN = [
    ("whole",), ("word",),
    ("below", 1), ("below", 2), ("below", HUGE),
    ("upto", 0), ("upto", 1), ("upto", -1), ("upto", HUGE), ("upto", -HUGE),
    ("without", "a"), ("without", " "), ("without", "~"), ("without", ","), ("without", "\\"), ("without", "0"),
    ("without", "'"), ("without", '"'), ("without", "&"), ("without", "$"), ("without", "!"), ("without", "}"),
]
NOT_PLAIN = [("key",)] + [(sort, kind) for sort in ("list", "some", "once") for kind in PLAIN]
NEARLY_KINDS = [
    "whole", "word", "key", "list", "", ["whole"], ["word"], ["key"], {"whole": 1}, (), None, True, 0,
    ("whole", 1), ("whole", None), ("whole", ()), ("word", ""), ("word", "a"), ("key", 1), ("key", None), ("key", "a"),
    ("whole", "word"), ("whole", ("whole",)), ("word", ("word",)), ("key", ("whole",)), ("whole", "whole"),
    ("below",), ("upto",), ("without",), ("list",), ("some",), ("once",),
    ("below", 0), ("below", -1), ("below", -HUGE), ("below", True), ("below", False), ("below", None), ("below", "1"),
    ("below", 1.0), ("below", (1,)), ("below", [1]), ("below", {}), ("below", 1, 2), ("below", 1, None),
    ("below", ("whole",)), ("upto", ("whole",)), ("without", ("word",)),
    ("upto", True), ("upto", False), ("upto", None), ("upto", "1"), ("upto", 0.5), ("upto", (1,)), ("upto", [1]),
    ("upto", {}), ("upto", 1, 2),
    ("without", ""), ("without", "ab"), ("without", "aa"), ("without", "  "), ("without", None), ("without", 1),
    ("without", 0), ("without", True), ("without", ("a",)), ("without", ["a"]), ("without", {"a": 1}),
    ("without", "a", "b"), ("without", "a", None), ("without", ()), ("without", []),
    ("head",), ("many",), ("twin",), ("Whole",), ("WHOLE",), ("whole ",), (" whole",), ("",), ("w",), ("words",),
    ("keys",), ("text",), ("at",), ("Below", 3), ("twice", ("whole",)), ("many", ("whole",)),
    (None,), (True,), (0,), (1,), ((),), ([],), ({},), (("whole",),), (["whole"],), (None, None), ([], []), ({}, {}),
    (("list",), ("whole",)), (["list"], ("whole",)), (None, ("whole",)), (("whole",), "list"), (("whole",), ("whole",)),
    ("list", "whole"), ("some", "whole"), ("once", "whole"), ("list", ["whole"]), ("some", ["whole"]),
    ("once", ["whole"]), ("list", None), ("some", True), ("once", 1), ("list", ()), ("some", {}), ("once", []),
    ("list", ("key",)), ("some", ("key",)), ("once", ("key",)),
    ("list", ("list", ("whole",))), ("list", ("some", ("whole",))), ("list", ("once", ("whole",))),
    ("some", ("list", ("whole",))), ("some", ("some", ("whole",))), ("some", ("once", ("whole",))),
    ("once", ("list", ("whole",))), ("once", ("some", ("whole",))), ("once", ("once", ("whole",))),
    ("list", ("below", 0)), ("some", ("below", 0)), ("once", ("below", 0)), ("list", ("below", True)),
    ("some", ("upto", None)), ("once", ("upto", True)), ("list", ("without", "ab")), ("some", ("without", "")),
    ("once", ("without", "ab")), ("list", ("whole", 1)), ("list", ("below",)), ("once", ("nothing",)),
    ("list", ("whole",), ("whole",)), ("some", ("whole",), 1), ("once", ("whole",), None), ("list", "below", 3),
    ("once", "below", 3), ["list", ("whole",)], ["below", 3], [("whole",)],
]


class KindsCase(unittest.TestCase):
    def asks(self, ask, things, told):
        for thing in things:
            with self.subTest(thing=thing):
                self.assertIs(ask(thing), told)


class TestWhole(KindsCase):
    def test_whole_numbers(self):
        self.asks(is_whole, WHOLES, True)

    def test_no_whole_numbers(self):
        self.asks(is_whole, ODD_THINGS + TEXTS, False)


class TestName(KindsCase):
    def test_names(self):
        self.asks(is_name, ["a", "z", "m", "ab", "za", "abcdefgh", "zzzzzzzz", "main", "whole", "none"], True)
        self.asks(is_name, list("abcdefghijklmnopqrstuvwxyz"), True)

    def test_texts_that_are_no_names(self):
        self.asks(is_name, ["", "abcdefghi", "a" * 300], False)

    def test_a_sign_that_is_no_small_letter_at_any_place(self):
        for sign in "`{@[AZM019_- .,;:/\\'\"~!=+*":
            self.asks(is_name, [sign, sign + "a", "a" + sign, "ab" + sign + "cd", "abcdefg" + sign], False)

    def test_other_signs_are_no_letters(self):
        self.asks(is_name, ["\n", "a\n", "\na", "ab\ncd", "\u00e9", "a\u00df", "\u0430", "a\u0660"], False)

    def test_things_that_are_no_texts(self):
        self.asks(is_name, ODD_THINGS + WHOLES + [("a",), ["a"], {"a": "a"}, ["a", "b"], ("a", "b")], False)


class TestPlain(KindsCase):
    def test_the_five_plain_kinds(self):
        self.asks(is_plain, PLAIN, True)

    def test_kinds_that_are_not_plain(self):
        self.asks(is_plain, NOT_PLAIN, False)

    def test_things_that_are_nearly_kinds(self):
        self.asks(is_plain, NEARLY_KINDS, False)

    def test_any_thing(self):
        self.asks(is_plain, ODD_THINGS + WHOLES + TEXTS, False)


class TestKind(KindsCase):
    def test_plain_kinds_are_kinds(self):
        self.asks(is_kind, PLAIN, True)

    def test_the_other_four(self):
        self.asks(is_kind, NOT_PLAIN, True)

    def test_things_that_are_nearly_kinds(self):
        self.asks(is_kind, NEARLY_KINDS, False)

    def test_any_thing(self):
        self.asks(is_kind, ODD_THINGS + WHOLES + TEXTS, False)

    def test_what_is_no_sign_is_not_left_out(self):
        for other in ["\n", "\t", "\x1f", "\x7f", "%", "\u00e9", "\u3000"]:
            kind = ("without", other)
            self.asks(is_plain, [kind], False)
            self.asks(is_kind, [kind, ("list", kind), ("some", kind), ("once", kind)], False)

    def test_things_that_lie_deep_in_one_another(self):
        deep = ("whole",)
        for layer in range(60):
            deep = ("list", deep)
            if layer > 0:
                self.asks(is_kind, [deep, [deep], {"list": deep}], False)


class FitsCase(unittest.TestCase):
    def fit(self, kind, values, size=9):
        for value in values:
            with self.subTest(kind=kind, value=value):
                self.assertIs(fits(kind, value, size), True)

    def miss(self, kind, values, size=9):
        for value in values:
            with self.subTest(kind=kind, value=value):
                self.assertIs(fits(kind, value, size), False)


class TestFitsPlain(FitsCase):
    def test_whole(self):
        self.fit(("whole",), WHOLES)
        self.miss(("whole",), ODD_THINGS + TEXTS)

    def test_below(self):
        self.fit(("below", 3), [0, 1, 2])
        self.miss(("below", 3), [-1, 3, 4, HUGE, -HUGE] + ODD_THINGS + TEXTS)
        self.fit(("below", 1), [0])
        self.miss(("below", 1), [-1, 1, False, True])
        self.fit(("below", HUGE), [0, HUGE - 1])
        self.miss(("below", HUGE), [HUGE, -1])

    def test_upto(self):
        self.fit(("upto", 3), [3, 2, 1, 0, -1, -HUGE])
        self.miss(("upto", 3), [4, 5, HUGE] + ODD_THINGS + TEXTS)
        self.fit(("upto", 0), [0, -1])
        self.miss(("upto", 0), [1, False, True])
        self.fit(("upto", -2), [-2, -3, -HUGE])
        self.miss(("upto", -2), [-1, 0, 1])

    def test_word(self):
        self.fit(("word",), TEXTS)
        self.miss(("word",), ODD_THINGS + WHOLES + [("a",), ["a"], {"a": "a"}])

    def test_without(self):
        self.fit(("without", ","), ["", "a", "a b", ";", ".", "a" * 300])
        self.miss(("without", ","), [",", ",a", "a,", "a,b", ",,", "a" * 299 + ","])
        self.miss(("without", ","), ODD_THINGS + WHOLES + [("a",), ["a"], {"a": "a"}])
        self.fit(("without", "a"), ["", "A", "b"])
        self.miss(("without", "a"), ["a", "ba", "ab", "bab"])
        self.fit(("without", " "), ["", "ab"])
        self.miss(("without", " "), [" ", "a b"])

    def test_the_size_does_not_count(self):
        for size in (1, 2, 10 ** 12):
            self.fit(("whole",), [-1, 0, 1, 2, 10 ** 13], size)
            self.fit(("below", 5), [0, 4], size)
            self.miss(("below", 5), [-1, 5], size)
            self.fit(("upto", 5), [-1, 5], size)
            self.miss(("upto", 5), [6], size)
            self.fit(("word",), ["", "abc"], size)
            self.fit(("without", "x"), ["", "abc"], size)
            self.fit(("list", ("whole",)), [(), (5, 10 ** 13)], size)
            self.fit(("once", ("whole",)), [5, 10 ** 13, -1], size)


class TestFitsKey(FitsCase):
    def test_pointers_at_the_edges_of_the_size(self):
        for size in (1, 2, 9, 10 ** 12):
            self.fit(("key",), [None, 0, size - 1], size)
            self.miss(("key",), [-1, size, size + 1, -size], size)

    def test_things_that_are_no_pointers(self):
        self.miss(("key",), [thing for thing in ODD_THINGS if thing is not None] + TEXTS + [HUGE, -HUGE])
        self.miss(("key",), [True, False, (0,), [0], "0", "-"], 1)


class TestFitsTuples(FitsCase):
    def test_list(self):
        self.fit(("list", ("whole",)), [(), (1,), (1, 1), (1, -2, 3), tuple(range(60))])
        self.miss(("list", ("whole",)), [(True,), (1, False), ("1",), (None,), (1, 2, "3"), ((1,),), ([1],), (1, ())])
        self.miss(("list", ("whole",)), [[], [1], {}, {1: 1}, None, 1, True, "", "ab"])

    def test_some(self):
        self.fit(("some", ("whole",)), [(1,), (1, 1), (1, -2, 3), tuple(range(60))])
        self.miss(("some", ("whole",)), [()])
        self.miss(("some", ("whole",)), [(True,), (1, False), ("1",), (None,), (1, 2, "3"), ((1,),), ([1],), (1, ())])
        self.miss(("some", ("whole",)), [[], [1], {}, {1: 1}, None, 1, True, "", "ab"])

    def test_each_plain_kind_within(self):
        for sort in ("list", "some"):
            self.fit((sort, ("below", 3)), [(0,), (2, 0, 2)])
            self.miss((sort, ("below", 3)), [(3,), (0, 3), (3, 0), (-1,), (0, -1, 0)])
            self.fit((sort, ("upto", 3)), [(3,), (-9, 3)])
            self.miss((sort, ("upto", 3)), [(4,), (3, 4), (4, 3)])
            self.fit((sort, ("word",)), [("",), ("a", "", "b,c")])
            self.miss((sort, ("word",)), [(1,), ("a", 1), (("a",),), "a", "ab", ""])
            self.fit((sort, ("without", ",")), [("",), ("a", "b")])
            self.miss((sort, ("without", ",")), [(",",), ("a", "b,"), ("a,", "b"), "a"])

    def test_values_by_themselves_are_no_tuples(self):
        for sort in ("list", "some"):
            self.miss((sort, ("whole",)), WHOLES)
            self.miss((sort, ("word",)), TEXTS)


class TestFitsOnce(FitsCase):
    def test_once_fits_where_its_kind_does(self):
        self.fit(("once", ("whole",)), WHOLES)
        self.miss(("once", ("whole",)), ODD_THINGS + TEXTS)
        self.fit(("once", ("below", 3)), [0, 2])
        self.miss(("once", ("below", 3)), [-1, 3, True, None])
        self.fit(("once", ("upto", 3)), [3, -HUGE])
        self.miss(("once", ("upto", 3)), [4, True, None])
        self.fit(("once", ("word",)), TEXTS)
        self.miss(("once", ("word",)), ODD_THINGS + WHOLES)
        self.fit(("once", ("without", ",")), ["", "a"])
        self.miss(("once", ("without", ",")), [",", "a,b", 1, None, ("a",)])


if __name__ == "__main__":
    unittest.main()
