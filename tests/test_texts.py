"""Points 50 to 52: values and kinds written as texts, and read again."""

import unittest
from itertools import product

from halfmoved.errors import NoText
from halfmoved.kinds import fits, is_kind
from halfmoved.texts import kind_of, kind_text, value_of, value_text

WHOLE = ("whole",)
WORD = ("word",)
KEY = ("key",)
NINES = "9" * 400
LONG = 10 ** 299 + 7
SIGNS = [chr(code) for code in range(32, 127) if code != 37]
PLAIN = [WHOLE, ("below", 1), ("below", 12), ("upto", 0), ("upto", -5), ("upto", 99), WORD, ("without", "/"), ("without", "\\"), ("without", " ")]

# Numbers that are written otherwise than point 50 tells, or are none.
NO_NUMBERS = [
    "", "-", "--1", "-0", "-00", "00", "01", "007", "-01", "-007", "+1", "+0", "1+", "1-", "- 1", " 1", "1 ", "1_0", "_1", "1_", "1,", ",1", "1,2",
    "1.0", "1.", ".5", "1e3", "0x1", "0b1", "0o7", "a", "1a", "a1", "one", "None", "True", "\\1", "1\\", "1;", ";", "\\_", "-a", "-+1", "+-1", "1 000",
    "\n", "1\n", "\n1", "\t1", "1\t", "\u0661", "\u00b2", "\uff11", "-\u0661", "inf", "nan",
    "1" * 401, "-" + "1" * 401, "0" * 400, "0" * 401, "9" * 4000, "1" * 4301, "-" + "7" * 5000, "0" * 5000,
]
# Texts that are written otherwise.
NO_WORDS = [
    "\\", "\\\\\\", "a\\", "\\a", "\\C", "\\S", "\\n", "\\ ", "\\,", "\\;", "\\-", "\\__\\", "x\\x", " ", "  ", "a b", " a", "a ", ",", "a,", ",a", "a,b",
    ";", "a;", ";a", "a;b", "\\_ ", "\\c,", "\\s;", "\\\\ ", "\\\\,", "\\\\\\a", "\n", "a\n", "a\nb", "\t", "a\tb",
]


class TextCase(unittest.TestCase):
    def same(self, told, wanted):
        self.assertEqual(told, wanted)
        self.assertEqual(repr(told), repr(wanted))

    def refused(self, ask, *handed):
        with self.assertRaises(NoText) as caught:
            ask(*handed)
        self.assertIs(type(caught.exception), NoText)

    def written(self, kind, value, text):
        self.assertTrue(fits(kind, value, 10 ** 12))
        self.same(value_text(kind, value), text)
        self.same(value_of(kind, text), value)

    def no_value(self, kind, *texts):
        for text in texts:
            with self.subTest(kind=kind, text=text[:40]):
                self.refused(value_of, kind, text)


class TestNumbers(TextCase):
    def test_whole(self):
        for number in (0, 1, -1, 9, 10, -10, 99, 100, 1234567890, -987654321, 10 ** 12, LONG, -LONG, 10 ** 299, -10 ** 299):
            self.written(WHOLE, number, str(number))
        self.written(WHOLE, 0, "0")
        self.written(WHOLE, -12, "-12")

    def test_how_many_figures(self):
        self.written(WHOLE, int(NINES), NINES)
        self.written(WHOLE, -int(NINES), "-" + NINES)
        self.same(value_text(WHOLE, 10 ** 400), "1" + "0" * 400)
        self.no_value(WHOLE, "1" + "0" * 400, "-1" + "0" * 400, NINES + "9")
        for kind in (("below", 10 ** 500), ("upto", 10 ** 500), ("once", WHOLE)):
            self.written(kind, int(NINES), NINES)
            self.no_value(kind, "1" + "0" * 400)
        self.written(("list", WHOLE), (int(NINES), -int(NINES)), NINES + ",-" + NINES + ",")
        self.no_value(("list", WHOLE), NINES + "9,")
        self.written(KEY, None, "-")
        self.same(value_of(KEY, NINES), int(NINES))
        self.no_value(KEY, NINES + "9")

    def test_written_otherwise(self):
        for kind in (WHOLE, ("upto", 10 ** 420), ("once", WHOLE), ("once", ("upto", 5))):
            self.no_value(kind, *NO_NUMBERS)
        self.no_value(("below", 10 ** 420), *NO_NUMBERS)

    def test_below(self):
        for many in (1, 2, 10, 11, 10 ** 12):
            for number in sorted({0, many // 2, many - 1}):
                self.written(("below", many), number, str(number))
            self.no_value(("below", many), "-1", str(many), str(many + 1), str(10 * many), "-0", "00")

    def test_upto(self):
        for top in (-12, -1, 0, 1, 5, LONG):
            for number in (top, top - 1, -LONG, top - 1000):
                self.written(("upto", top), number, str(number))
            self.no_value(("upto", top), str(top + 1), str(top + 10), str(10 * LONG))

    def test_all_short_texts(self):
        # What is read was written in just one way: of all short texts just the written numbers are read.
        written = {str(number): number for number in range(-999, 10000)}
        for many in range(5):
            for signs in product("-+019 _", repeat=many):
                text = "".join(signs)
                if text in written:
                    self.same(value_of(WHOLE, text), written[text])
                else:
                    self.refused(value_of, WHOLE, text)


class TestWords(TextCase):
    def test_each_sign(self):
        others = {"\\": "\\\\", " ": "\\_", ",": "\\c", ";": "\\s"}
        for sign in SIGNS:
            text = others.get(sign, sign)
            self.written(WORD, sign, text)
            self.written(WORD, sign * 3, text * 3)
            self.written(WORD, "a" + sign + "b", "a" + text + "b")

    def test_all_signs_together(self):
        text = "".join(SIGNS)
        self.written(WORD, text, text.replace("\\", "\\\\").replace(" ", "\\_").replace(",", "\\c").replace(";", "\\s"))

    def test_some(self):
        for value, text in (
            ("", ""), ("a b", "a\\_b"), ("\\", "\\\\"), ("\\\\", "\\\\\\\\"), ("\\_", "\\\\_"), ("\\c", "\\\\c"), ("\\ ", "\\\\\\_"), (" \\", "\\_\\\\"),
            ("_", "_"), ("c", "c"), ("s", "s"), ("_ c,s;", "_\\_c\\cs\\s"), ("-", "-"), ("0", "0"), ("007", "007"), ("-0", "-0"), ("  ", "\\_\\_"),
            (":", ":"), ("=", "="), ("'\"", "'\""), ("a" * 300, "a" * 300), ("\\" * 300, "\\" * 600),
        ):
            self.written(WORD, value, text)
            self.written(("once", WORD), value, text)

    def test_written_otherwise(self):
        for kind in (WORD, ("without", "/"), ("once", WORD), ("once", ("without", "x"))):
            self.no_value(kind, *NO_WORDS)

    def test_without(self):
        for sign, fine, wrong in (
            ("/", ["", "a", "\\_", "\\\\"], ["/", "a/", "/a", "a/b", "//"]),
            (" ", ["", "a", "_", "\\c"], ["\\_", "a\\_b", "\\_\\_"]),
            (",", ["", "c", "\\s"], ["\\c", "a\\cb"]),
            (";", ["", "s", "\\c"], ["\\s", "a\\sb"]),
            ("\\", ["", "_", "\\_", "\\c", "\\s", "/"], ["\\\\", "\\\\_", "a\\\\"]),
            ("_", ["", "\\_", "\\c"], ["_", "\\\\_", "a_"]),
            ("c", ["\\c", "C"], ["c", "\\cc"]),
        ):
            for text in fine:
                self.same(value_text(("without", sign), value_of(("without", sign), text)), text)
                self.same(value_of(("without", sign), text), value_of(WORD, text))
            self.no_value(("without", sign), *wrong)
            self.no_value(("once", ("without", sign)), *wrong)

    def test_all_short_texts(self):
        written = {}
        for many in range(5):
            for signs in product("a\\_cs ,;", repeat=many):
                value = "".join(signs)
                written[value_text(WORD, value)] = value
        self.assertEqual(len(written), sum(8 ** many for many in range(5)))
        for many in range(5):
            for signs in product("a\\_cs ,;", repeat=many):
                text = "".join(signs)
                if text in written:
                    self.same(value_of(WORD, text), written[text])
                else:
                    self.refused(value_of, WORD, text)


class TestPointers(TextCase):
    def test_pointers(self):
        self.written(KEY, None, "-")
        for key in (0, 1, 9, 10, 10 ** 12 - 1):
            self.written(KEY, key, str(key))

    def test_the_size_is_not_asked(self):
        self.same(value_of(KEY, str(LONG)), LONG)

    def test_no_pointers(self):
        self.no_value(KEY, "-1", "-5", "-" + str(LONG), "- ", "--", "\\-", "-,", *[text for text in NO_NUMBERS if text != "-"])


class TestTuples(TextCase):
    def test_numbers(self):
        for value, text in (((1,), "1,"), ((1, 2), "1,2,"), ((0, -5, 0), "0,-5,0,"), ((LONG,), str(LONG) + ","), ((3,) * 60, "3," * 60)):
            self.written(("list", WHOLE), value, text)
            self.written(("some", WHOLE), value, text)

    def test_texts(self):
        for value, text in (
            (("",), ","), (("", ""), ",,"), (("a",), "a,"), (("a", "", "b"), "a,,b,"), (("a,b", ";"), "a\\cb,\\s,"), ((" ",), "\\_,"),
            (("\\", "\\"), "\\\\,\\\\,"), (("1", "-"), "1,-,"), (("\\,",), "\\\\\\c,"),
        ):
            self.written(("list", WORD), value, text)
            self.written(("some", WORD), value, text)

    def test_no_thing(self):
        for kind in PLAIN:
            self.written(("list", kind), (), "")
            self.no_value(("some", kind), "")

    def test_within_each_plain_kind(self):
        for sort in ("list", "some"):
            self.written((sort, ("below", 3)), (0, 2, 2), "0,2,2,")
            self.no_value((sort, ("below", 3)), "3,", "0,3,", "3,0,", "-1,", "1,-1,2,")
            self.written((sort, ("upto", -3)), (-3, -4), "-3,-4,")
            self.no_value((sort, ("upto", -3)), "-2,", "-3,-2,", "0,")
            self.written((sort, ("without", "/")), ("a", ""), "a,,")
            self.no_value((sort, ("without", "/")), "/,", "a,b/,", "a/,b,")
            self.written((sort, ("without", ",")), ("a", "c"), "a,c,")
            self.no_value((sort, ("without", ",")), "\\c,", "a,\\c,")

    def test_written_otherwise(self):
        for sort in ("list", "some"):
            self.no_value((sort, WHOLE), "1", "1,2", ",", ",,", "1,,", ",1,", "1,,2,", "1, 2,", "1 ,", " ", "1;2;", ";", "-,", "1,-,", "-0,", "01,", "+1,", "a,", "(1,)")
            self.no_value((sort, WORD), "a", "a,b", " ,", "a b,", "a, b,", ";,", "a;", "\\,", "a\\,b,", "\\a,", "a,\\", "\\\\\\,", "\\", " ", "\n,", "a,\n")

    def test_all_short_texts(self):
        for sort in ("list", "some"):
            written = {}
            words = [""] + ["".join(signs) for many in (1, 2, 3) for signs in product("a\\,", repeat=many)]
            for many in range(5):
                for value in product(words if many < 3 else words[:4], repeat=many):
                    if many > 0 or sort == "list":
                        written[value_text((sort, WORD), value)] = value
            for many in range(5):
                for signs in product("a\\,c", repeat=many):
                    text = "".join(signs)
                    try:
                        value = value_of((sort, WORD), text)
                    except NoText:
                        self.assertNotIn(text, written)
                        continue
                    self.same(value_text((sort, WORD), value), text)
            for text, value in written.items():
                self.same(value_of((sort, WORD), text), value)


class TestOnce(TextCase):
    def test_like_the_kind_within(self):
        self.written(("once", WHOLE), -7, "-7")
        self.written(("once", ("below", 3)), 2, "2")
        self.written(("once", ("upto", 3)), -2, "-2")
        self.written(("once", WORD), "a b", "a\\_b")
        self.written(("once", ("without", "/")), "", "")
        self.no_value(("once", ("below", 3)), "3", "-1", "2,")
        self.no_value(("once", ("upto", 3)), "4")
        self.no_value(("once", ("without", "/")), "/")
        self.no_value(("once", WHOLE), "-")


class TestKinds(TextCase):
    def of(self, kind, text):
        self.assertTrue(is_kind(kind))
        self.same(kind_text(kind), text)
        self.same(kind_of(text), kind)

    def no_kind(self, *texts):
        for text in texts:
            with self.subTest(text=text[:40]):
                self.refused(kind_of, text)

    def test_bare_ones(self):
        self.of(WHOLE, "whole")
        self.of(WORD, "word")
        self.of(KEY, "key")

    def test_bounds(self):
        for number in (1, 2, 10, 10 ** 12, LONG, int(NINES)):
            self.of(("below", number), "below:" + str(number))
        for number in (0, 1, -1, 12, -12, LONG, -LONG, int(NINES), -int(NINES)):
            self.of(("upto", number), "upto:" + str(number))

    def test_without(self):
        others = {"\\": "\\\\", " ": "\\_", ",": "\\c", ";": "\\s"}
        for sign in SIGNS:
            self.of(("without", sign), "without:" + others.get(sign, sign))
        self.of(("without", ":"), "without::")

    def test_kinds_within_kinds(self):
        for sort in ("list", "some", "once"):
            for kind in PLAIN:
                self.of((sort, kind), sort + ":" + kind_text(kind))
        self.of(("list", ("without", ":")), "list:without::")
        self.of(("some", ("without", " ")), "some:without:\\_")
        self.of(("once", ("upto", -5)), "once:upto:-5")

    def test_nearly_kinds(self):
        self.no_kind(
            "", " ", ":", "::", "Whole", "WORD", "whole ", " whole", "wholes", "whol", "whole:", "whole:1", "word:", "word:a", "key:", "key:5", "keys",
            "below", "upto", "without", "list", "some", "once", "below:", "upto:", "without:", "list:", "some:", "once:", "int", "text", "number:5",
            "whole,", "whole;", "('whole',)", "whole\n", "\nwhole", "word\t", "w hole", "below 5", "below=5", "foo:5", ":whole", ":5", "without", "1", "-",
        )

    def test_bounds_that_are_none(self):
        self.no_kind("below:0", "below:-1", "below:-0", "below:05", "below:+5", "below:5 ", "below: 5", "below:5:", "below::5", "below:a", "below:1_0", "below:5,")
        self.no_kind("upto:-0", "upto:00", "upto:+5", "upto:05", "upto:-", "upto:a", "upto:5:5", "upto: 5", "upto:--5", "upto:None", "upto:\u0661")
        self.no_kind("below:1" + "0" * 400, "upto:1" + "0" * 400, "upto:-1" + "0" * 400, "list:below:" + NINES + "9", "below:" + "1" * 5000)

    def test_signs_that_are_none(self):
        self.no_kind(
            "without:ab", "without: ", "without:,", "without:;", "without:\\", "without:\\a", "without:\\_a", "without:\\\\\\", "without:\\\\\\\\",
            "without:\\c\\c", "without:::", "without:a:", "without:\n", "without:\t", "without:a ", "without: a", "without:aa",
        )

    def test_kinds_within_that_are_none(self):
        for sort in ("list", "some", "once"):
            for within in (
                "", "key", "list:whole", "some:whole", "once:whole", "list", "below", "below:0", "upto:", "without:", "without:ab", "whole:", " whole",
                "whole ", ":whole", "Whole", "list:list:whole", "5", "a",
            ):
                self.no_kind(sort + ":" + within)
        self.no_kind("list:" * 700 + "whole", "once:" * 1000, "list:some:" * 400 + "word")


class TestHandedIn(unittest.TestCase):
    def test_names_of_the_arguments(self):
        self.assertEqual(value_text(kind=WHOLE, value=5), "5")
        self.assertEqual(value_of(kind=WHOLE, text="5"), 5)
        self.assertEqual(kind_text(kind=WHOLE), "whole")
        self.assertEqual(kind_of(text="whole"), WHOLE)

    def test_told_again(self):
        for count in range(2):
            self.assertEqual(value_of(("list", WORD), "a,b\\_,"), ("a", "b "))
            self.assertEqual(kind_of("some:below:5"), ("some", ("below", 5)))
            with self.assertRaises(NoText):
                value_of(WHOLE, "05")


if __name__ == "__main__":
    unittest.main()
