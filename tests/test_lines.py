"""Points 53 to 55: lines and programs of lines, the words that they tell, and moves made of words."""

import random
import unittest
from itertools import product
from math import gcd

from halfmoved.chains import Chain, Turned
from halfmoved.errors import NoMove, NoText
from halfmoved.forms import form_of
from halfmoved.lines import line_of, move_of, program, words_of
from halfmoved.moves import Cap, Put, Rename
from halfmoved.parts import Part, Split
from halfmoved.renumber import Renumber
from halfmoved.sides import Cleave, Rows
from halfmoved.texts import kind_text, value_text
from halfmoved.turns import Shift

WHOLE = ("whole",)
WORD = ("word",)
NINES = "9" * 400
TWELVE = ["a", "aa", "ab", "b", "c", "d", "e", "f", "g", "h", "i", "zzzzzzzz"]
NO_NAMES = ["", "A", "a1", "1", "a_b", "a-b", "abcdefghi", "a.b", "\\_", "-", ";", ",", "a\n", "\na", "a\t", "\u00e4", "Main", "main,", "None"]
NO_NUMBERS = ["", "-", "-0", "00", "01", "-01", "+1", "1,", "1.0", "a", "1_0", "\\1", "1\n", "\u0661", NINES + "9", "-1" + "0" * 400, "1" * 5000]
NO_SIGNS = ["", ",", ";", "\\", "ab", "\\a", "\\_\\_", "\\_a", "aa", "\\\\\\", "\n", "a\n", "\t", "\u00e4"]

LINES = [
    ("put main c whole 5", ("put", "main", "c", WHOLE, 5)),
    ("put main c whole -5", ("put", "main", "c", WHOLE, -5)),
    ("put t c below:3 0", ("put", "t", "c", ("below", 3), 0)),
    ("put t c upto:-3 -3", ("put", "t", "c", ("upto", -3), -3)),
    ("put t c word a", ("put", "t", "c", WORD, "a")),
    ("put t c word ", ("put", "t", "c", WORD, "")),
    ("put t c word \\_\\c\\s\\\\", ("put", "t", "c", WORD, " ,;\\")),
    ("put t c without:\\_ a\\cb", ("put", "t", "c", ("without", " "), "a,b")),
    ("put t c without:: ", ("put", "t", "c", ("without", ":"), "")),
    ("put t c list:whole ", ("put", "t", "c", ("list", WHOLE), ())),
    ("put t c list:whole 1,-2,", ("put", "t", "c", ("list", WHOLE), (1, -2))),
    ("put t c list:word ,", ("put", "t", "c", ("list", WORD), ("",))),
    ("put t c some:word a,,", ("put", "t", "c", ("some", WORD), ("a", ""))),
    ("put t c some:without:\\c c,", ("put", "t", "c", ("some", ("without", ",")), ("c",))),
    ("put put put word put", ("put", "put", "put", WORD, "put")),
    ("cap main n 5", ("cap", "main", "n", 5)),
    ("cap main n -5", ("cap", "main", "n", -5)),
    ("cap main n 0", ("cap", "main", "n", 0)),
    ("cap main n " + NINES, ("cap", "main", "n", int(NINES))),
    ("rename main a b", ("rename", "main", "a", "b")),
    ("rename main a a", ("rename", "main", "a", "a")),
    ("rename abcdefgh zzzzzzzz a", ("rename", "abcdefgh", "zzzzzzzz", "a")),
    ("rename back back back", ("rename", "back", "back", "back")),
    ("part main n h l 10", ("part", "main", "n", "h", "l", 10)),
    ("part main n n l 1", ("part", "main", "n", "n", "l", 1)),
    ("part main n h h 2", ("part", "main", "n", "h", "h", 2)),
    ("part main n h l " + NINES, ("part", "main", "n", "h", "l", int(NINES))),
    ("split main w /", ("split", "main", "w", "/")),
    ("split main w \\_", ("split", "main", "w", " ")),
    ("split main w \\c", ("split", "main", "w", ",")),
    ("split main w \\s", ("split", "main", "w", ";")),
    ("split main w \\\\", ("split", "main", "w", "\\")),
    ("split main w _", ("split", "main", "w", "_")),
    ("split main w c", ("split", "main", "w", "c")),
    ("split main w -", ("split", "main", "w", "-")),
    ("shift main n 5", ("shift", "main", "n", 5)),
    ("shift main n -5", ("shift", "main", "n", -5)),
    ("shift main n 0", ("shift", "main", "n", 0)),
    ("shift main n -" + NINES, ("shift", "main", "n", -int(NINES))),
    ("rows c side", ("rows", "c", "side")),
    ("rows a a", ("rows", "a", "a")),
    ("cleave side", ("cleave", "side", ())),
    ("cleave side a", ("cleave", "side", ("a",))),
    ("cleave side a aa ab b", ("cleave", "side", ("a", "aa", "ab", "b"))),
    ("cleave side side", ("cleave", "side", ("side",))),
    ("cleave side " + " ".join(TWELVE), ("cleave", "side", tuple(TWELVE))),
    ("renumber 0 0 1", ("renumber", 0, 0, 1)),
    ("renumber 1 0 2", ("renumber", 1, 0, 2)),
    ("renumber 1 1 2", ("renumber", 1, 1, 2)),
    ("renumber 3 9 10", ("renumber", 3, 9, 10)),
    ("renumber 9 0 10", ("renumber", 9, 0, 10)),
    ("renumber 1 999999999999 1000000000000", ("renumber", 1, 10 ** 12 - 1, 10 ** 12)),
    ("renumber 1 0 " + NINES, ("renumber", 1, 0, int(NINES))),
]


class LineCase(unittest.TestCase):
    def same(self, told, wanted):
        self.assertEqual(told, wanted)
        self.assertEqual(repr(told), repr(wanted))

    def refused(self, ask, handed):
        with self.assertRaises(NoText) as caught:
            ask(handed)
        self.assertIs(type(caught.exception), NoText)

    def no_lines(self, *lines):
        for line in lines:
            with self.subTest(line=line[:60]):
                self.refused(words_of, line)
                self.refused(program, line if line != "" else "\n")

    def is_line(self, line, words):
        self.same(words_of(line), words)
        self.same(line_of(words), line)
        self.same(program(line), [words])
        self.same(move_of(words).words(), words)


class TestLines(LineCase):
    def test_each_line(self):
        for line, words in LINES:
            with self.subTest(line=line[:60]):
                self.is_line(line, words)

    def test_back_up_to_six_times(self):
        for line, words in LINES:
            for backs in range(1, 7):
                words = ("back", words)
                self.is_line("back " * backs + line, words)
            self.no_lines("back " * 7 + line, "back " * 8 + line, "back " * 700 + line)

    def test_no_line_behind_back(self):
        for backs in range(1, 8):
            self.no_lines("back " * backs, "back " * (backs - 1) + "back", "back " * backs + "chain", "back " * backs + "rename a b")
        self.no_lines("back " * 1000, "backrename t a b", "back  rename t a b", " back rename t a b", "back rename t a b ", "Back rename t a b", "back back")

    def test_every_kind_and_value_of_a_put(self):
        for kind, values in (
            (WHOLE, [0, -1, 10 ** 299]), (("below", 2), [0, 1]), (("upto", 0), [0, -9]), (WORD, ["", " ", "\\,;", "back"]), (("without", "\\"), [" ", "_"]),
        ):
            for value in values:
                self.is_line("put t c " + kind_text(kind) + " " + value_text(kind, value), ("put", "t", "c", kind, value))
            for sort in ("list", "some"):
                for value in [tuple(values), (values[0],), (values[-1], values[0], values[-1])]:
                    words = ("put", "t", "c", (sort, kind), value)
                    self.is_line("put t c " + kind_text((sort, kind)) + " " + value_text((sort, kind), value), words)


class TestNoLines(LineCase):
    def test_no_verb(self):
        self.no_lines(
            "", " ", "  ", "move", "chain", "chain ", "Put t c word a", "PUT t c word a", "turn t c whole whole", "shifts t c 5", "shift\n", "-", "5", ";",
            "puts t c word a", "words", "none", "name name name", "\n", "rename\tt a b",
        )

    def test_blanks(self):
        for line in ("cap main n 5", "rename main a b", "rows c side", "cleave side a b", "renumber 3 9 10", "part main n h l 10", "put t c whole 5"):
            self.no_lines(" " + line, line + " ", line.replace(" ", "  ", 1), "  ".join(line.rsplit(" ", 1)), line.replace(" ", "\t"), line.replace(" ", ""))

    def test_too_few_or_too_many_words(self):
        for line, words in LINES:
            told = line.split(" ")
            if told[0] == "cleave":
                continue
            for many in range(len(told)):
                self.no_lines(" ".join(told[:many]))
            self.no_lines(line + " a", line + " ", line + " 5", line + " " + line, line + ";")
        self.no_lines("cleave", "cleave ", "cleave side ", "cleave  a")

    def test_no_names(self):
        for name in NO_NAMES:
            for line in (
                "put {} c word a", "put t {} word a", "cap {} c 5", "cap t {} 5", "rename {} a b", "rename t {} b", "rename t a {}", "part {} c h l 5",
                "part t {} h l 5", "part t c {} l 5", "part t c h {} 5", "split {} c /", "split t {} /", "shift {} c 5", "shift t {} 5", "rows {} side",
                "rows c {}", "cleave {}", "cleave {} a", "cleave side {}", "cleave side {} z", "cleave side a {}",
            ):
                self.no_lines(line.format(name))

    def test_no_numbers(self):
        for number in NO_NUMBERS:
            for line in ("cap t c {}", "part t c h l {}", "shift t c {}", "renumber {} 0 10", "renumber 1 {} 10", "renumber 1 0 {}", "put t c whole {}"):
                self.no_lines(line.format(number))

    def test_numbers_below_one(self):
        self.no_lines("part t c h l 0", "part t c h l -1", "part t c h l -10", "renumber 0 0 0", "renumber 1 0 0", "renumber 0 0 -1", "renumber 1 0 -5")

    def test_no_signs(self):
        for sign in NO_SIGNS + [" "]:
            self.no_lines("split t c " + sign)

    def test_put(self):
        self.no_lines(
            "put t c key -", "put t c key 5", "put t c once:whole 5", "put t c once:word a", "put t c once:below:3 1", "put t c number 5", "put t c  5",
            "put t c whole a", "put t c whole ", "put t c below:0 0", "put t c below:3 3", "put t c below:3 -1", "put t c upto:5 6", "put t c word a,b",
            "put t c word a b", "put t c word ;", "put t c word \\a", "put t c word \\", "put t c without:/ a/b", "put t c without:\\_ \\_", "put t c some:whole ",
            "put t c list:whole 1", "put t c list:whole 1,2", "put t c list:whole ,", "put t c list:key -,", "put t c list:list:whole ,", "put t c list:below:2 2,",
            "put t c without: a", "put t c below:3", "put t c 5 whole", "put t whole c 5 6", "put t c whole:5 5", "put t c word a\nb", "put t c word \n",
            "put t c below:" + NINES + "9 0", "put t c upto:" + NINES + "9 0",
        )

    def test_cleave(self):
        self.no_lines("cleave side b a", "cleave side a a", "cleave side a b b", "cleave side a c b", "cleave side aa a", "cleave side a,b", "cleave side ()")
        thirteen = sorted(TWELVE + ["x"])
        self.no_lines("cleave side " + " ".join(thirteen), "cleave side " + " ".join(sorted(thirteen + ["y"])))
        for left_out in range(13):
            some = [name for number, name in enumerate(thirteen) if number != left_out]
            self.is_line("cleave side " + " ".join(some), ("cleave", "side", tuple(some)))

    def test_renumber(self):
        for size in range(1, 13):
            for times in range(-1, size + 2):
                for plus in (-1, 0, size - 1, size):
                    line = f"renumber {times} {plus} {size}"
                    if 0 <= times < size and 0 <= plus < size and gcd(times, size) == 1:
                        self.is_line(line, ("renumber", times, plus, size))
                    else:
                        self.no_lines(line)
        self.no_lines("renumber 2 0 1000000000000", "renumber 1000000000000 0 1000000000000", "renumber 11 0 10", "renumber 3 13 10")


class TestWords(LineCase):
    def test_chains_have_no_line(self):
        shift = ("shift", "t", "c", 1)
        for words in (
            ("chain", ()), ("chain", (shift,)), ("chain", (shift, shift)), ("back", ("chain", ())), ("back", ("chain", (shift,))),
            ("back", ("back", ("back", ("chain", (shift,))))), ("chain", (("chain", (shift,)),)), ("chain", (("back", ("chain", ())),)),
            ("back", ("back", ("back", ("back", ("back", ("back", ("back", ("chain", ())))))))),
        ):
            self.refused(line_of, words)

    def test_what_is_written_reads_again(self):
        # Words that no line tells may be refused, but are never written as the line of another move.
        for words in (
            ("rename", "t", "a b", "c"), ("cleave", "s", ("a b",)), ("cleave", "s", ("b", "a")), ("cleave", "s a", ()), ("rows", "", "s"), ("rows", "A", "s"),
            ("shift", "t", "c", True), ("cap", "t", "c", None), ("split", "t", "c", "ab"), ("split", "t", "c", ""), ("put", "t", "c", ("key",), None),
            ("put", "t", "c", ("once", WHOLE), 1), ("put", "t", "c", WHOLE, "5"), ("put", "t", "c", "whole", 5), ("put", "t", "c", ("below", 3), 3),
            ("part", "t", "c", "h", "l", 0), ("renumber", 2, 0, 10), ("shift", "t", "c", 10 ** 400), ("rename", "t", None, "c"), ("split", "t", "c", 5),
        ):
            with self.subTest(words=repr(words)[:60]):
                try:
                    line = line_of(words)
                except NoText:
                    continue
                self.refused(words_of, line)

    def test_moves_made_of_words(self):
        for move in (
            Put("main", "p", WHOLE, 5), Cap("main", "n", 5), Rename("main", "n", "m"), Part("main", "n", "h", "l", 10), Split("main", "w", "/"),
            Shift("main", "n", -4), Rows("t", "side"), Cleave("side", ["w", "n"]), Cleave("side", []), Renumber(3, 1, 10),
        ):
            words = move.words()
            self.made(words, type(move))
            self.made(("back", words), Turned)
            self.made(("back", ("back", words)), Turned)
            self.made(("chain", (words, ("back", words))), Chain)
            self.made(("back", ("chain", (words, ("chain", (("back", words),))))), Turned)
            self.made(("chain", (("back", ("chain", (words,))), words)), Chain)
        self.made(("chain", ()), Chain)
        self.made(("back", ("chain", ())), Turned)
        self.made(("chain", (("chain", ()), ("chain", ()))), Chain)

    def made(self, words, wanted):
        move = move_of(words)
        self.assertIs(type(move), wanted)
        self.same(move.words(), words)
        self.same(move_of(move.words()).words(), words)

    def test_moves_of_lines_that_fit_no_form(self):
        form = form_of(9, [("main", "head", {"n": WHOLE})])
        for line in ("part main n h h 5", "rename main n n", "rows n n", "cap none n 5", "renumber 1 0 10", "back put main n word a"):
            move = move_of(words_of(line))
            for ask in (move.after, move.before):
                with self.assertRaises(NoMove) as caught:
                    ask(form)
                self.same(caught.exception.move, 0)

    def test_they_do_what_the_words_tell(self):
        form = form_of(10, [("main", "head", {"k": ("key",), "n": WHOLE, "t": ("list", WHOLE), "w": WORD})])
        piece = {"main": [{"k": 2, "n": 25, "t": (1, 2), "w": "a b"}]}
        for line, came in (
            ("put main p word x\\_y", {"main": [{"k": 2, "n": 25, "p": "x y", "t": (1, 2), "w": "a b"}]}),
            ("cap main n 20", {"main": [{"k": 2, "n": 20, "t": (1, 2), "w": "a b"}]}),
            ("rename main n m", {"main": [{"k": 2, "m": 25, "t": (1, 2), "w": "a b"}]}),
            ("part main n h l 10", {"main": [{"h": 2, "k": 2, "l": 5, "t": (1, 2), "w": "a b"}]}),
            ("split main w \\_", {"main": [{"k": 2, "n": 25, "t": (1, 2), "w": ("a", "b")}]}),
            ("shift main n -5", {"main": [{"k": 2, "n": 20, "t": (1, 2), "w": "a b"}]}),
            ("rows t side", {"main": [{"k": 2, "n": 25, "w": "a b"}], "side": [{"t": 1}, {"t": 2}]}),
            ("cleave side n w", {"main": [{"k": 2, "t": (1, 2)}], "side": [{"n": 25, "w": "a b"}]}),
            ("renumber 3 1 10", {"main": [{"k": 7, "n": 25, "t": (1, 2), "w": "a b"}]}),
            ("back shift main n -5", {"main": [{"k": 2, "n": 30, "t": (1, 2), "w": "a b"}]}),
            ("back back shift main n -5", {"main": [{"k": 2, "n": 20, "t": (1, 2), "w": "a b"}]}),
        ):
            move = move_of(words_of(line))
            self.assertEqual(move.forth(form, piece, move.left(form, piece))[0], came)
        self.same(move_of(words_of("renumber 3 1 10")).key_forth(2), 7)
        self.same(move_of(words_of("back renumber 3 1 10")).key_forth(7), 2)

    def test_chains_in_their_order(self):
        form = form_of(10, [("main", "head", {"n": WHOLE})])
        piece = {"main": [{"n": 25}]}
        chain = move_of(("chain", (("cap", "main", "n", 20), ("back", ("cap", "main", "n", 20)), ("shift", "main", "n", 1))))
        self.assertEqual(chain.forth(form, piece, chain.left(form, piece)), ({"main": [{"n": 21}]}, [[25], None, None]))
        turned = move_of(("back", ("chain", (("rename", "main", "n", "m"), ("shift", "main", "m", 1)))))
        old = form_of(10, [("main", "head", {"m": WHOLE})])
        self.assertEqual(turned.after(old), form)
        self.assertEqual(turned.forth(old, {"main": [{"m": 5}]}, [None, None]), ({"main": [{"n": 4}]}, [None, None]))


class TestPrograms(LineCase):
    def test_no_signs(self):
        self.same(program(""), [])
        told = program("")
        told.append("scribble")
        self.same(program(""), [])

    def test_lines_in_order(self):
        for many in range(1, len(LINES) + 1):
            text = "\n".join([line for line, words in LINES[:many]])
            self.same(program(text), [words for line, words in LINES[:many]])
        self.same(program("rows a b\nrows a b"), [("rows", "a", "b")] * 2)
        self.same(program("back cap t c 5\ncleave s\nput t c word "), [
            ("back", ("cap", "t", "c", 5)), ("cleave", "s", ()), ("put", "t", "c", WORD, ""),
        ])
        self.same(program("put t c word \nrows a b"), [("put", "t", "c", WORD, ""), ("rows", "a", "b")])

    def test_rows_without_signs(self):
        line = "rows a b"
        for text in ("\n", "\n\n", line + "\n", "\n" + line, line + "\n\n" + line, "\n" + line + "\n", line + "\n" + line + "\n"):
            self.refused(program, text)

    def test_rows_that_are_no_lines(self):
        line = "rows a b"
        for wrong in (" ", "rows a", "chain", "rows a b ", "# a", "rows a b;", "rows A b", "rows a b\r", "rows a b\x0b", "rows a b\x0crows a b", "rows a b\u2028rows a b"):
            for text in (wrong, line + "\n" + wrong, wrong + "\n" + line, line + "\n" + wrong + "\n" + line):
                self.refused(program, text)

    def test_a_line_feed_is_in_no_line(self):
        self.refused(words_of, "rows a b\nrows a b")
        self.refused(words_of, "put t c word a\nrows a b")
        self.refused(words_of, "put t c word \n")
        self.refused(words_of, "put t c list:word a,\n")
        self.refused(words_of, "split t c \n")


class TestOneWay(LineCase):
    def test_texts_near_lines(self):
        # Whatever text is read was written in just one way.
        chance = random.Random(53)
        signs = "ab1-0 \\_cs,;:/"
        read = 0
        for turn in range(20000):
            line = chance.choice(LINES)[0]
            place = chance.randrange(len(line) + 1)
            change = chance.choice(["", chance.choice(signs), chance.choice(signs) * 2])
            text = line[:place] + change + line[place + chance.randrange(2):]
            try:
                words = words_of(text)
            except NoText:
                continue
            read += 1
            self.assertEqual(line_of(words), text)
            self.assertEqual(move_of(words).words(), words)
        self.assertGreater(read, 1000)

    def test_short_programs(self):
        lines = ["", "rows a b", "rows a", "cleave s"]
        for many in range(1, 4):
            for rows in product(lines, repeat=many):
                text = "\n".join(rows)
                if text == "" or not ("" in rows or "rows a" in rows):
                    self.assertEqual(len(program(text)), 0 if text == "" else many)
                else:
                    self.refused(program, text)


class TestHandedIn(LineCase):
    def test_names_of_the_arguments(self):
        words = ("rows", "a", "b")
        self.same(words_of(line="rows a b"), words)
        self.same(line_of(words=words), "rows a b")
        self.same(move_of(words=words).words(), words)
        self.same(program(text="rows a b"), [words])

    def test_changes_to_what_was_told(self):
        text = "rows a b\ncleave s a"
        told = program(text)
        told.reverse()
        told.append(())
        self.same(program(text), [("rows", "a", "b"), ("cleave", "s", ("a",))])

    def test_two_moves_of_one_line(self):
        words = words_of("cleave s a b")
        self.assertIsNot(move_of(words), move_of(words))
        self.same(words, ("cleave", "s", ("a", "b")))


if __name__ == "__main__":
    unittest.main()
