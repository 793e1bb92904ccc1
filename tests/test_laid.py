"""Points 56 to 58: words made flat, and laid together."""

import random
import unittest
from copy import deepcopy

from halfmoved.laid import laid
from halfmoved.renumber import Renumber
from test_move_case import LONG, MoveCase

WHOLE = ("whole",)
WORD = ("word",)

PUT = ("put", "main", "a", WHOLE, 1)
CAP = ("cap", "main", "a", 5)
PART = ("part", "main", "a", "h", "l", 7)
SPLIT = ("split", "main", "a", "/")
ROWS = ("rows", "a", "side")
CLEAVE = ("cleave", "side", ("a", "b"))
STAY = (PUT, CAP, PART, SPLIT, ROWS, CLEAVE)
WALL = ("split", "wall", "w", "/")


def back(words):
    return ("back", words)


def chain(*rows):
    return ("chain", rows)


def shift(by, column="a", table="main"):
    return ("shift", table, column, by)


def rename(column, name, table="main"):
    return ("rename", table, column, name)


def put(column, value=1, kind=WHOLE, table="main"):
    return ("put", table, column, kind, value)


def renumber(times, plus, size):
    return ("renumber", times, plus, size)


class LaidCase(MoveCase):
    def lays(self, rows, wanted):
        handed = deepcopy(rows)
        told = laid(handed)
        self.assertIsInstance(told, list)
        self.assertIsNot(told, handed)
        self.same(told, wanted)
        self.same(handed, rows)

    def stays(self, *rows):
        self.lays(list(rows), list(rows))


class TestFlat(LaidCase):
    def test_argument_by_name(self):
        self.same(laid(rows=[PUT, shift(0)]), [PUT])

    def test_the_empty_list(self):
        self.lays([], [])

    def test_single_moves_stay(self):
        for words in STAY + (shift(3), shift(-LONG), rename("a", "b"), renumber(3, 4, 10), ("cleave", "side", ())):
            self.stays(words)

    def test_backs_that_stay(self):
        for words in STAY:
            self.stays(back(words))

    def test_chains(self):
        self.lays([chain()], [])
        self.lays([chain(), chain(chain(), chain())], [])
        self.lays([chain(CAP)], [CAP])
        self.lays([chain(CAP, SPLIT)], [CAP, SPLIT])
        self.lays([PART, chain(CAP, SPLIT), PUT], [PART, CAP, SPLIT, PUT])
        self.lays([chain(chain(CAP, chain(SPLIT)), chain(), PUT, chain(PART, ROWS))], [CAP, SPLIT, PUT, PART, ROWS])

    def test_backs_of_chains(self):
        self.lays([back(chain())], [])
        self.lays([back(chain(CAP))], [back(CAP)])
        self.lays([back(chain(CAP, SPLIT, PART))], [back(PART), back(SPLIT), back(CAP)])
        self.lays([PUT, back(chain(CAP, SPLIT)), ROWS], [PUT, back(SPLIT), back(CAP), ROWS])

    def test_chains_within_backs_of_chains(self):
        inner = chain(SPLIT, PART)
        self.lays([back(chain(CAP, inner, ROWS))], [back(ROWS), back(PART), back(SPLIT), back(CAP)])
        self.lays([back(chain(CAP, back(inner), ROWS))], [back(ROWS), SPLIT, PART, back(CAP)])
        self.lays([chain(CAP, back(inner), ROWS)], [CAP, back(PART), back(SPLIT), ROWS])
        self.lays([back(chain(back(chain(back(CAP), SPLIT)), PART))], [back(PART), back(CAP), SPLIT])

    def test_backs_of_backs(self):
        for words in STAY:
            self.lays([back(back(words))], [words])
            self.lays([back(back(back(words)))], [back(words)])
            self.lays([back(back(back(back(back(back(words))))))], [words])
        self.lays([back(back(chain(CAP, SPLIT)))], [CAP, SPLIT])
        self.lays([back(back(back(chain(CAP, SPLIT))))], [back(SPLIT), back(CAP)])

    def test_backs_of_shifts(self):
        self.lays([back(shift(5))], [shift(-5)])
        self.lays([back(shift(-LONG))], [shift(LONG)])
        self.lays([back(back(shift(5)))], [shift(5)])
        self.lays([back(shift(5, "b", "more"))], [shift(-5, "b", "more")])
        self.lays([back(chain(shift(5, "a"), shift(6, "b")))], [shift(-6, "b"), shift(-5, "a")])

    def test_backs_of_renames(self):
        self.lays([back(rename("a", "b"))], [rename("b", "a")])
        self.lays([back(back(rename("a", "b")))], [rename("a", "b")])
        self.lays([back(rename("c", "d", "more"))], [rename("d", "c", "more")])
        self.lays([back(chain(rename("a", "b"), rename("c", "d")))], [rename("d", "c"), rename("b", "a")])

    def test_backs_of_renumberings(self):
        self.lays([back(renumber(3, 4, 10))], [renumber(7, 2, 10)])
        self.lays([back(back(renumber(3, 4, 10)))], [renumber(3, 4, 10)])
        self.lays([back(renumber(1, 4, 10))], [renumber(1, 6, 10)])
        self.lays([back(renumber(9, 0, 10))], [renumber(9, 0, 10)])
        self.lays([back(renumber(9, 9, 10))], [renumber(9, 9, 10)])
        self.lays([back(renumber(1, 1, 2))], [renumber(1, 1, 2)])

    def test_backs_of_renumberings_undo_them(self):
        for size in (2, 3, 7, 9, 10, 12, 10 ** 12):
            for times in (1, 5, 7, 11, size - 1):
                if Renumber(times, 0, size).words()[1] == times and self.fits(times, size):
                    self.undoes(times, size)

    def fits(self, times, size):
        return all(times % number or size % number for number in range(2, 20))

    def undoes(self, times, size):
        for plus in (1, size // 2 or 1, size - 1):
            move = Renumber(times, plus, size)
            told = laid([back(move.words())])
            self.assertEqual(len(told), 1)
            self.assertTrue(0 <= told[0][1] < size and 0 <= told[0][2] < size)
            other = Renumber(told[0][1], told[0][2], told[0][3])
            for key in (0, 1, size // 3, size - 1):
                self.same(other.key_forth(move.key_forth(key)), key)


class TestLeftOut(LaidCase):
    # A shift by 0, and a renumbering that moves no key.
    def test_at_the_start(self):
        for words in (shift(0), renumber(1, 0, 10), renumber(1, 0, 2), renumber(0, 0, 1), renumber(1, 0, 10 ** 12)):
            self.lays([words], [])
            self.lays([back(words)], [])
            self.lays([back(back(words))], [])
            self.lays([chain(words, words)], [])
            self.lays([back(chain(words, CAP, words))], [back(CAP)])
            self.lays([words, CAP, words, SPLIT, words], [CAP, SPLIT])

    def test_not_those_that_move_some_key(self):
        for words in (renumber(1, 1, 10), renumber(9, 0, 10), renumber(11, 0, 100), renumber(1, 1, 2), renumber(3, 0, 4), shift(1), shift(-1)):
            self.stays(words)

    def test_a_put_of_nought_and_a_cap_at_nought_stay(self):
        self.stays(put("a", 0))
        self.stays(("cap", "main", "a", 0))

    def test_where_they_arise_later(self):
        self.lays([shift(4), shift(-4)], [])
        self.lays([shift(4), shift(1), shift(-5)], [])
        self.lays([renumber(3, 4, 10), renumber(7, 2, 10)], [])
        self.lays([renumber(1, 1, 2), renumber(1, 1, 2)], [])
        self.lays([shift(4), back(shift(4))], [])
        self.lays([back(renumber(3, 4, 10)), renumber(3, 4, 10)], [])

    def test_neighbours_that_arise_when_they_are_left_out(self):
        self.lays([PART, shift(0), back(PART)], [])
        self.lays([PART, renumber(1, 0, 10), shift(0, "b"), back(PART)], [])
        self.lays([PART, shift(4), shift(-4), back(PART)], [])
        self.lays([shift(1), renumber(3, 4, 10), renumber(7, 2, 10), shift(2)], [shift(3)])
        self.lays([put("a"), renumber(9, 0, 10), renumber(9, 0, 10), rename("a", "b")], [put("b")])


class TestBothGo(LaidCase):
    def test_a_move_and_its_back(self):
        for words in (PUT, PART, SPLIT, ROWS, CLEAVE, ("cleave", "side", ())):
            self.lays([words, back(words)], [])

    def test_a_back_and_its_move(self):
        for words in (CAP, PART, SPLIT, ROWS, CLEAVE, ("cleave", "side", ())):
            self.lays([back(words), words], [])

    def test_a_cap_and_its_back_stay(self):
        self.stays(CAP, back(CAP))
        self.stays(("cap", "main", "a", 0), back(("cap", "main", "a", 0)))

    def test_a_put_behind_its_back_stays(self):
        self.stays(back(PUT), PUT)

    def test_twice_the_same_stays(self):
        for words in STAY:
            self.stays(words, words)
            self.stays(back(words), back(words))

    def test_other_moves_stay(self):
        for one, other in (
            (PUT, ("put", "main", "a", WHOLE, 2)), (PUT, ("put", "main", "a", ("upto", 1), 1)), (PUT, ("put", "main", "b", WHOLE, 1)),
            (PUT, ("put", "more", "a", WHOLE, 1)), (PART, ("part", "main", "a", "h", "l", 8)), (PART, ("part", "main", "a", "l", "h", 7)),
            (PART, ("part", "main", "b", "h", "l", 7)), (PART, ("part", "more", "a", "h", "l", 7)), (SPLIT, ("split", "main", "a", " ")),
            (SPLIT, ("split", "main", "b", "/")), (SPLIT, ("split", "more", "a", "/")), (ROWS, ("rows", "b", "side")),
            (ROWS, ("rows", "a", "other")), (CLEAVE, ("cleave", "side", ("a",))), (CLEAVE, ("cleave", "other", ("a", "b"))),
            (CLEAVE, ("cleave", "side", ("a", "b", "c"))), (CAP, ("cap", "main", "a", 6)), (CAP, ("cap", "main", "b", 5)),
            (CAP, ("cap", "more", "a", 5)), (CAP, PART), (PART, PUT),
        ):
            self.stays(one, back(other))
            self.stays(back(one), other)
            self.stays(other, back(one))
            self.stays(back(other), one)

    def test_not_where_another_stands_between(self):
        for words in (PUT, PART, SPLIT, ROWS, CLEAVE):
            self.stays(words, WALL, back(words))

    def test_from_within_outwards(self):
        rows = [PART, SPLIT, back(CAP), ROWS, back(ROWS), CAP, back(SPLIT), back(PART)]
        self.lays(rows, [])
        self.lays([chain(*rows[:5]), back(chain(PART, SPLIT, back(CAP)))], [])
        self.lays([back(CAP), CAP, back(CAP)], [back(CAP)])
        self.lays([CAP, back(CAP), CAP], [CAP])
        self.lays([PUT, back(PUT), PUT], [PUT])
        self.lays([back(PUT), PUT, back(PUT)], [back(PUT)])
        self.lays([SPLIT, back(SPLIT), SPLIT], [SPLIT])


class TestShifts(LaidCase):
    def test_two_of_one_column(self):
        self.lays([shift(2), shift(3)], [shift(5)])
        self.lays([shift(2), shift(-3)], [shift(-1)])
        self.lays([shift(LONG), shift(LONG)], [shift(2 * LONG)])
        self.lays([shift(1), shift(2), shift(3), shift(4)], [shift(10)])
        self.lays([shift(2, "b", "more"), back(shift(5, "b", "more"))], [shift(-3, "b", "more")])

    def test_others_stay(self):
        self.stays(shift(2), shift(3, "b"))
        self.stays(shift(2), shift(3, "a", "more"))
        self.stays(shift(2), shift(-2, "b"))
        self.stays(shift(2), WALL, shift(3))
        self.stays(shift(2), shift(2, "b"), shift(2))
        self.stays(shift(5), CAP)
        self.stays(CAP, shift(5))
        self.stays(shift(5), back(CAP))


class TestRenumberings(LaidCase):
    def test_two_of_one_size(self):
        self.lays([renumber(3, 4, 10), renumber(7, 1, 10)], [renumber(1, 9, 10)])
        self.lays([renumber(3, 4, 10), renumber(1, 9, 10)], [renumber(3, 3, 10)])
        self.lays([renumber(1, 9, 10), renumber(3, 4, 10)], [renumber(3, 1, 10)])
        self.lays([renumber(1, 1, 10)] * 3, [renumber(1, 3, 10)])
        self.lays([renumber(1, 1, 10)] * 10, [])

    def test_keys_go_through_the_first_one_first(self):
        chance = random.Random(57)
        for count in range(200):
            size = chance.choice([5, 7, 11, 25, 10 ** 12 - 11])
            one = Renumber(chance.randrange(1, 5), chance.randrange(size), size)
            other = Renumber(chance.randrange(1, 5), chance.randrange(size), size)
            told = laid([one.words(), other.words()])
            keys = [0, 1, size - 1, chance.randrange(size)]
            wanted = [other.key_forth(one.key_forth(key)) for key in keys]
            if not told:
                self.same(wanted, keys)
                continue
            self.assertEqual(len(told), 1)
            self.assertTrue(0 <= told[0][1] < size and 0 <= told[0][2] < size)
            both = Renumber(told[0][1], told[0][2], told[0][3])
            self.same([both.key_forth(key) for key in keys], wanted)

    def test_others_stay(self):
        self.stays(renumber(3, 4, 10), renumber(3, 4, 11))
        self.stays(renumber(3, 4, 10), shift(1), renumber(3, 4, 10))
        self.stays(renumber(3, 4, 10), PUT, renumber(7, 2, 10))


class TestRenames(LaidCase):
    def test_two_that_go_on(self):
        self.lays([rename("a", "b"), rename("b", "c")], [rename("a", "c")])
        self.lays([rename("a", "b"), rename("b", "c"), rename("c", "d"), rename("d", "e")], [rename("a", "e")])
        self.lays([rename("a", "b", "more"), rename("b", "c", "more")], [rename("a", "c", "more")])

    def test_two_that_lead_back(self):
        self.lays([rename("a", "b"), rename("b", "a")], [])
        self.lays([rename("a", "b"), back(rename("a", "b"))], [])
        self.lays([back(rename("a", "b")), rename("a", "b")], [])
        self.lays([rename("a", "b"), rename("b", "c"), rename("c", "a")], [])
        self.lays([rename("a", "b"), rename("b", "a"), rename("a", "b")], [rename("a", "b")])

    def test_others_stay(self):
        self.stays(rename("a", "b"), rename("c", "d"))
        self.stays(rename("a", "b"), rename("c", "a"))
        self.stays(rename("a", "b"), rename("a", "c"))
        self.stays(rename("a", "b"), rename("a", "b"))
        self.stays(rename("a", "b"), rename("b", "c", "more"))
        self.stays(rename("a", "b"), rename("b", "a", "more"))
        self.stays(rename("a", "b"), WALL, rename("b", "a"))
        self.stays(rename("a", "b"), shift(1, "b"))


class TestPutsAndRenames(LaidCase):
    def test_a_put_that_is_renamed(self):
        self.lays([put("a"), rename("a", "b")], [put("b")])
        self.lays([put("a", ("x", ""), ("list", WORD), "more"), rename("a", "b", "more")], [put("b", ("x", ""), ("list", WORD), "more")])
        self.lays([put("a"), rename("a", "b"), rename("b", "c")], [put("c")])
        self.lays([put("a"), rename("a", "b"), rename("b", "a")], [put("a")])
        self.lays([put("a"), back(rename("b", "a"))], [put("b")])

    def test_a_rename_ahead_of_a_put_taken_back(self):
        self.lays([rename("a", "b"), back(put("b"))], [back(put("a"))])
        self.lays([rename("a", "b", "more"), back(put("b", "x", WORD, "more"))], [back(put("a", "x", WORD, "more"))])
        self.lays([rename("a", "b"), rename("b", "c"), back(put("c"))], [back(put("a"))])
        self.lays([back(chain(put("b"), rename("b", "a")))], [back(put("a"))])

    def test_a_put_renamed_and_taken_back(self):
        self.lays([put("a"), rename("a", "b"), back(put("b"))], [])
        self.lays([put("a"), rename("a", "b"), rename("b", "c"), back(put("c"))], [])

    def test_others_stay(self):
        self.stays(put("a"), rename("b", "c"))
        self.stays(put("a"), rename("b", "a"))
        self.stays(put("a"), rename("a", "b", "more"))
        self.stays(rename("a", "b"), put("b"))
        self.stays(rename("a", "b"), put("a"))
        self.stays(rename("a", "b"), back(put("a")))
        self.stays(rename("a", "b"), back(put("c")))
        self.stays(rename("a", "b"), back(put("b", 1, WHOLE, "more")))
        self.stays(back(put("a")), rename("a", "b"))
        self.stays(back(put("a")), rename("b", "a"))
        self.stays(put("a"), WALL, rename("a", "b"))
        self.stays(rename("a", "b"), WALL, back(put("b")))
        self.stays(put("a"), shift(1))
        self.stays(put("a"), ("cap", "main", "a", 0))
        self.stays(rename("a", "b"), back(("cap", "main", "b", 1)))
        self.stays(rename("a", "b"), ("cap", "main", "b", 1))


class TestOrder(LaidCase):
    def test_the_first_two_from_the_left_go_first(self):
        # Taken together from the right, the column of what is left would be called a.
        self.lays([put("a", 1), rename("a", "b"), back(put("b", 2))], [put("b", 1), back(put("b", 2))])
        self.lays(
            [WALL, put("a", 1), rename("a", "b"), rename("b", "c"), back(put("c", 2)), WALL],
            [WALL, put("c", 1), back(put("c", 2)), WALL],
        )
        self.lays(
            [put("a", 1), rename("a", "b"), shift(0), back(put("b", 2)), shift(1), shift(1)],
            [put("b", 1), back(put("b", 2)), shift(2)],
        )

    def test_it_is_looked_again_from_the_left(self):
        # What the first two become is asked with its left neighbour ahead of those behind it.
        self.lays(
            [put("a", 1), rename("a", "b"), shift(1), shift(-1), back(put("b", 2))],
            [put("b", 1), back(put("b", 2))],
        )
        self.lays(
            [put("a", 1), SPLIT, back(SPLIT), rename("a", "b"), back(put("b", 2))],
            [put("b", 1), back(put("b", 2))],
        )
        self.lays(
            [put("a", 1), rename("a", "c"), rename("c", "b"), back(put("b", 2)), back(put("b", 1))],
            [put("b", 1), back(put("b", 2)), back(put("b", 1))],
        )

    def test_two_hundred_words(self):
        self.lays([shift(1)] * 200, [shift(200)])
        self.lays([chain(*[WALL, back(WALL)] * 100)], [])
        self.lays([PART, SPLIT] * 50 + [back(SPLIT), back(PART)] * 50, [])
        self.lays([CAP] * 200, [CAP] * 200)

    def test_six_deep(self):
        words = chain(PART, shift(3), rename("a", "b"), renumber(3, 4, 10))
        wanted = [PART, shift(3), rename("a", "b"), renumber(3, 4, 10)]
        undone = [renumber(7, 2, 10), rename("b", "a"), shift(-3), back(PART)]
        for depth in range(3):
            words = chain(back(words))
            self.lays([words], undone if depth % 2 == 0 else wanted)


def flattened(words):
    # Point 56 word for word: one exchange at a time, until none is left to be made.
    match words:
        case ("chain", rows):
            return [flat for row in rows for flat in flattened(row)]
        case ("back", ("chain", rows)):
            return [flat for row in rows[::-1] for flat in flattened(("back", row))]
        case ("back", ("back", inner)):
            return flattened(inner)
        case ("back", ("shift", table, column, by)):
            return flattened(("shift", table, column, -by))
        case ("back", ("rename", table, column, name)):
            return [("rename", table, name, column)]
        case ("back", ("renumber", times, plus, size)):
            move = Renumber(times, plus, size)
            start = move.key_back(0)
            return flattened(("renumber", (move.key_back(1 % size) - start) % size, start, size))
        case ("shift", table, column, 0):
            return []
        case ("renumber", times, plus, size) if all(Renumber(times, plus, size).key_forth(key) == key for key in range(min(size, 3))):
            return []
    return [words]


def taken(one, other):
    # Point 57 word for word, None where no rule takes the two.
    match one, other:
        case (x, ("back", y)) if x == y and x[0] != "cap":
            return []
        case (("back", x), y) if x == y and x[0] != "put":
            return []
        case (("shift", table, column, by), ("shift", table_too, column_too, more)) if (table, column) == (table_too, column_too):
            return flattened(("shift", table, column, by + more))
        case (("renumber", _, _, size), ("renumber", _, _, size_too)) if size == size_too:
            keys = [Renumber(*other[1:]).key_forth(Renumber(*one[1:]).key_forth(key % size)) for key in (0, 1)]
            return flattened(("renumber", (keys[1] - keys[0]) % size, keys[0], size))
        case (("rename", table, c, d), ("rename", table_too, d_too, e)) if (table, d) == (table_too, d_too):
            return [] if e == c else [("rename", table, c, e)]
        case (("put", table, c, kind, value), ("rename", table_too, c_too, d)) if (table, c) == (table_too, c_too):
            return [("put", table, d, kind, value)]
        case (("rename", table, c, d), ("back", ("put", table_too, d_too, kind, value))) if (table, d) == (table_too, d_too):
            return [("back", ("put", table, c, kind, value))]
    return None


def laid_slowly(rows):
    left = [flat for row in rows for flat in flattened(row)]
    for place in range(len(left) - 1):
        told = taken(left[place], left[place + 1])
        if told is not None:
            return laid_slowly(left[:place] + told + left[place + 2:])
    return left


def random_words(chance, deep):
    # Few names and numbers, so that neighbours often have something to do with one another.
    if deep > 0 and chance.randrange(6) == 0:
        return ("chain", tuple(random_words(chance, deep - 1) for count in range(chance.randrange(4))))
    if deep > 0 and chance.randrange(3) == 0:
        return ("back", random_words(chance, deep - 1))
    table = chance.choice(["main", "main", "main", "more"])
    one, other = chance.sample(["a", "b", "c"], 2)
    size = chance.choice([1, 5, 5, 7])
    return chance.choice([
        ("put", table, one, WHOLE, chance.randrange(2)), ("cap", table, one, chance.randrange(2)), ("rename", table, one, other),
        ("rename", table, one, other), ("rename", table, one, other), ("part", table, one, "h", "l", 7), ("split", table, one, "/"),
        ("shift", table, one, chance.randrange(-1, 2)), ("rows", one, "side"), ("cleave", "side", tuple(sorted([one, other]))),
        ("renumber", chance.randrange(1, 5) % size, chance.randrange(5) % size, size),
    ])


def random_rows(chance):
    # Some of few words, turned round by chance, beside words of their own.
    few = [random_words(chance, 1) for count in range(3)]
    rows = []
    for place in range(chance.randrange(9)):
        words = random_words(chance, 3) if chance.randrange(3) == 0 else chance.choice(few)
        rows.append(("back", words) if chance.randrange(2) == 0 else words)
    return rows


class TestAgainstTheRules(LaidCase):
    def test_lists_by_chance(self):
        chance = random.Random(58)
        shorter = 0
        for count in range(4000):
            rows = random_rows(chance)
            wanted = laid_slowly(rows)
            self.lays(rows, wanted)
            self.stays(*wanted)
            shorter = shorter + (len(wanted) < len([flat for row in rows for flat in flattened(row)]))
        self.assertGreater(shorter, 800)

    def test_lists_with_their_undoing_behind(self):
        chance = random.Random(59)
        for count in range(400):
            rows = random_rows(chance)
            both = rows + [("back", ("chain", tuple(rows)))]
            self.lays(both, laid_slowly(both))


if __name__ == "__main__":
    unittest.main()
