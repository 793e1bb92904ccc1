"""Points 62 to 67: what is shown of a move, what it loses, and two moves held against one another."""

import unittest
from copy import deepcopy
from itertools import product

from halfmoved.chains import Chain, Turned
from halfmoved.errors import NoMove, TooMany
from halfmoved.forms import form_of
from halfmoved.laid import laid
from halfmoved.lines import move_of
from halfmoved.moves import Cap, Move, Put, Rename
from halfmoved.parts import Part, Split
from halfmoved.renumber import Renumber
from halfmoved.showing import show_alike, show_kept, show_lost
from halfmoved.sides import Cleave, Rows
from halfmoved.small import pieces_of
from halfmoved.turns import Shift, Turn
from test_move_case import MoveCase, exact, scribble

WHOLE = ("whole",)
WORD = ("word",)
SIZE = 9
NUMBERS = form_of(SIZE, [("main", "head", {"n": WHOLE})])


def numbers(*values):
    return [{"main": [{"n": value}]} for value in values]


def number(value):
    return {"main": [{"n": value}]}


def turn(forth, back, old=WHOLE, new=WHOLE):
    return Turn("main", "n", old, new, forth, back)


def small(form, **values):
    # The same values for all columns of one name.
    lists = {}
    for table, sort, columns in form[1]:
        for column, kind in columns:
            lists[(table, column)] = values[column]
    return pieces_of(form, lists)


class ShowCase(MoveCase):
    def tells(self, ask, *things):
        # What is handed in stays, and what is told is new; asked once more, it is the same.
        handed = [deepcopy(thing) if isinstance(thing, list) else thing for thing in things]
        told = ask(*handed)
        wanted = exact(told)
        scribble(told)
        self.same(self.lists(handed), self.lists(things))
        told = ask(*handed)
        self.assertEqual(exact(told), wanted)
        scribble(self.lists(handed))
        self.assertEqual(exact(told), wanted)
        return told

    def lists(self, handed):
        return [thing for thing in handed if isinstance(thing, list)]

    def refuses(self, error, ask, *handed):
        with self.assertRaises(error) as caught:
            ask(*handed)
        self.assertIs(type(caught.exception), error)
        return caught.exception


class KeptCase(ShowCase):
    def kept(self, move, form, olds, news):
        self.same(self.tells(show_kept, move, form, olds, news), ("kept", len(olds), len(news)))

    def broken(self, move, form, olds, news, word, trail):
        told = self.tells(show_kept, move, form, olds, news)
        self.same(told, ("broken", word, trail))


class TestKept(KeptCase):
    def test_arguments_by_name(self):
        told = show_kept(move=Move(), form=NUMBERS, olds=numbers(1, 2), news=numbers(3))
        self.same(told, ("kept", 2, 1))

    def test_nothing_at_all(self):
        self.kept(Move(), NUMBERS, [], [])
        self.kept(Shift("main", "n", 1), NUMBERS, numbers(1), [])
        self.kept(Shift("main", "n", 1), NUMBERS, [], numbers(1))

    def test_the_order_of_the_counts(self):
        self.kept(Shift("main", "n", 1), NUMBERS, numbers(1, 2, 3), numbers(1, 2))

    def test_every_move(self):
        two = form_of(SIZE, [("main", "head", {"n": WHOLE, "w": WORD}), ("more", "many", {"n": WHOLE})])
        lists = form_of(SIZE, [("main", "head", {"t": ("list", WHOLE), "k": ("key",)})])
        values = {
            "n": [1, 3], "w": ["", "a/"], "p": [7, 8], "m": [1, 3], "h": [0, 2], "l": [0, 1], "t": [(), (1,), (1, 1)], "k": [None, 4],
        }
        for move, form in (
            (Move(), two), (Rename("more", "n", "m"), two), (Shift("more", "n", 2), two), (Cleave("z", ["n"]), two),
            (Put("more", "p", WHOLE, 7), two), (Part("main", "n", "h", "l", 2), two), (Renumber(2, 1, SIZE), lists), (Cleave("z", ["k"]), lists),
            (Turned(Put("more", "n", WHOLE, 1)), two), (Chain([]), two), (Chain([Put("main", "p", WHOLE, 1), Shift("main", "p", 1)]), two),
        ):
            with self.subTest(move=move.words()):
                olds = small(form, **values)[:60]
                news = small(move.after(form), **values)[:60]
                self.kept(move, form, olds, news)

    def test_moves_with_other_kinds_behind(self):
        form = form_of(SIZE, [("main", "head", {}), ("more", "many", {"n": WHOLE})])
        cap = Cap("more", "n", 2)
        self.kept(cap, form, small(form, n=[1, 2, 3]), small(cap.after(form), n=[1, 2]))
        self.kept(Turned(cap), cap.after(form), small(cap.after(form), n=[1, 2]), small(form, n=[1, 2, 3]))
        words = form_of(SIZE, [("main", "head", {}), ("more", "many", {"n": WORD})])
        split = Split("more", "n", "/")
        self.kept(split, words, small(words, n=["", "/", "a"]), small(split.after(words), n=[("",), ("", "a")]))
        lists = form_of(SIZE, [("main", "head", {"t": ("some", WORD)})])
        rows = Rows("t", "side")
        self.kept(rows, lists, small(lists, t=[("",), ("a", ""), ("a", "b", "c")]), small(rows.after(lists), t=["", "a", "b"]))

    def test_rests_of_earlier_writes(self):
        # Kept though the new form forgets: what it forgot comes again where the top is written.
        self.kept(Cap("main", "n", 2), NUMBERS, numbers(-1, 2, 3, 9), numbers(2, 1))

    def test_a_cap_and_its_back(self):
        # Written in the new form, 4 is capped on its way back, and its own left rest leads it forth again.
        chain = Chain([Cap("main", "n", 2), Turned(Cap("main", "n", 2))])
        self.kept(chain, NUMBERS, numbers(1, 2, 5), numbers(0, 2, 4))

    def test_sixty_pieces(self):
        self.kept(Shift("main", "n", 1), NUMBERS, numbers(*range(60)), numbers(*range(60)))


class TestBroken(KeptCase):
    def test_form(self):
        move = turn(lambda value: value + 1, lambda value: value - 1, ("below", 3), ("below", 3))
        form = form_of(SIZE, [("main", "head", {"n": ("below", 3)})])
        self.broken(move, form, numbers(0, 1, 2), [], "form", [number(2), number(3)])
        self.broken(move, form, numbers(2), numbers(0), "form", [number(2), number(3)])

    def test_form_of_values_of_quite_other_kinds(self):
        for odd in ("a", None, (), [1], {"a": [2]}, 1.5):
            self.broken(turn(lambda value: odd, lambda value: value), NUMBERS, numbers(4), numbers(4), "form", [number(4), number(odd)])

    def test_back(self):
        move = turn(lambda value: value // 2, lambda value: value * 2)
        self.broken(move, NUMBERS, numbers(0, 4, 5, 7), numbers(1), "back", [number(5), number(2), number(4)])
        odd = turn(lambda value: value, lambda value: "a")
        self.broken(odd, NUMBERS, numbers(4), numbers(4), "back", [number(4), number(4), number("a")])

    def test_old_form(self):
        form = form_of(SIZE, [("main", "head", {"n": ("below", 3)})])
        move = turn(lambda value: value, lambda value: value, ("below", 3), WHOLE)
        self.broken(move, form, numbers(0, 1), numbers(2, 3, -1), "old form", [number(0), number(3), number(3)])
        self.broken(move, form, numbers(1), numbers(-1, 3), "old form", [number(1), number(-1), number(-1)])
        self.kept(move, form, numbers(0, 1, 2), numbers(0, 1, 2))

    def test_put(self):
        move = turn(lambda value: value * 2, lambda value: value // 2)
        self.broken(move, NUMBERS, numbers(1, 4), numbers(2, 8, 5, 7), "put", [number(1), number(5), number(2), number(4)])
        self.kept(move, NUMBERS, numbers(1, 4), numbers(2, 8))

    def test_form_ahead_of_back(self):
        # Led back, what came would not be the old piece either.
        form = form_of(SIZE, [("main", "head", {"n": ("below", 3)})])
        move = turn(lambda value: value + 5, lambda value: 0, ("below", 3), ("below", 3))
        self.broken(move, form, numbers(1), numbers(1), "form", [number(1), number(6)])

    def test_old_form_ahead_of_put(self):
        form = form_of(SIZE, [("main", "head", {"n": ("below", 3)})])
        move = turn(lambda value: value, lambda value: value if value < 3 else value + 1, ("below", 3), WHOLE)
        self.broken(move, form, numbers(1), numbers(7), "old form", [number(1), number(7), number(8)])

    def test_what_is_no_piece_is_led_no_further(self):
        def never(value):
            raise AssertionError(value)
        self.broken(turn(lambda value: "a", never), NUMBERS, numbers(1, 2), numbers(1), "form", [number(1), number("a")])
        forth = turn(lambda value: value if value < 5 else never(value), lambda value: value if value < 5 else "a")
        self.broken(forth, NUMBERS, numbers(1), numbers(2, 6), "old form", [number(1), number(6), number("a")])

    def test_nothing_is_asked_behind_the_first_break(self):
        def until_five(value):
            if value >= 5:
                raise AssertionError(value)
            return value
        move = turn(lambda value: until_five(value) // 2, lambda value: until_five(value) * 2)
        self.broken(move, NUMBERS, numbers(2, 3, 7), numbers(9), "back", [number(3), number(1), number(2)])

    def test_all_olds_ahead_of_the_first_pair(self):
        # The first pair would break, but the last of the olds does so first.
        move = turn(lambda value: abs(value) * 2, lambda value: value // 2)
        self.broken(move, NUMBERS, numbers(1, 2, -3), numbers(5), "back", [number(-3), number(6), number(3)])
        self.broken(move, NUMBERS, numbers(1, 2), numbers(5), "put", [number(1), number(5), number(2), number(4)])

    def test_the_first_of_several_olds(self):
        move = turn(lambda value: "a" if value == 3 else abs(value), lambda value: value)
        self.broken(move, NUMBERS, numbers(1, 3, -2), [], "form", [number(3), number("a")])
        self.broken(move, NUMBERS, numbers(1, -2, 3), [], "back", [number(-2), number(2), number(2)])

    def test_the_first_of_several_news(self):
        move = turn(lambda value: value, lambda value: "a" if value == 3 else abs(value))
        self.broken(move, NUMBERS, numbers(7, 8), numbers(1, 3, -2), "old form", [number(7), number(3), number("a")])
        self.broken(move, NUMBERS, numbers(8, 7), numbers(1, -2, 3), "put", [number(8), number(-2), number(2), number(2)])

    def test_the_olds_change_slower(self):
        # The right rest is the old number: for 2, and for 1 behind a new 5, the move breaks.
        class Grudge(Move):
            def forth(self, form, piece, rest):
                return (deepcopy(piece), piece["main"][0]["n"])

            def right(self, form, piece, rest=None):
                return rest

            def back(self, form, piece, rest):
                if rest == 2 or (rest, piece["main"][0]["n"]) == (1, 5):
                    return (number(0) if piece != number(rest) else piece, None)
                return (deepcopy(piece), None)

            def left(self, form, piece, rest=None):
                return None
        self.broken(Grudge(), NUMBERS, numbers(1, 2), numbers(1, 5), "put", [number(1), number(5), number(0), number(0)])
        self.broken(Grudge(), NUMBERS, numbers(2, 1), numbers(1, 5), "put", [number(2), number(1), number(0), number(0)])

    def test_the_rests_count(self):
        # The pieces come again, but not what the one form knows ahead of the other.
        class Forgetful(Put):
            def back(self, form, piece, rest):
                return (Put.back(self, form, piece, rest)[0], [0])
        came = {"main": [{"n": 1, "p": 3}]}
        self.broken(Forgetful("main", "p", WHOLE, 3), NUMBERS, numbers(1), [], "back", [number(1), came, number(1)])

        class Careless(Cap):
            def forth(self, form, piece, rest):
                came, right = Cap.forth(self, form, piece, rest)
                return (came, right if piece["main"][0]["n"] > 3 else [9])

            def back(self, form, piece, rest):
                return (deepcopy(piece), None)
        self.broken(Careless("main", "n", 3), NUMBERS, numbers(1), numbers(2), "put", [number(1), number(2), number(2), number(2)])

    def test_fresh_left_rests(self):
        chain = Chain([Put("main", "p", WHOLE, 4), Turn("main", "p", WHOLE, ("below", 4), lambda value: value, lambda value: value)])
        told = show_kept(chain, NUMBERS, numbers(1), [])
        self.same(told, ("broken", "form", [number(1), {"main": [{"n": 1, "p": 4}]}]))
        chain = Chain([Put("main", "p", WHOLE, 3), Turn("main", "p", WHOLE, ("below", 4), lambda value: value, lambda value: value)])
        self.same(show_kept(chain, NUMBERS, numbers(1), []), ("kept", 1, 0))

    def test_several_rows(self):
        form = form_of(SIZE, [("main", "head", {}), ("more", "many", {"n": WHOLE})])
        move = Turn("more", "n", WHOLE, WHOLE, lambda value: value * 2, lambda value: value // 2)
        news = [{"main": [{}], "more": [{"n": value} for value in values]} for values in ([], [2], [2, 4], [2, 3])]
        wanted = [{"main": [{}], "more": [{"n": value} for value in values]} for values in ([2, 3], [1, 1], [2, 2])]
        self.broken(move, form, news[:2], news, "put", [news[0]] + wanted)

    def test_all_ways_over_three_numbers(self):
        # Of each value the ways tell one of the three, or 3, which is none: all of them, held to points 62 and 63 by numbers.
        form = form_of(SIZE, [("main", "head", {"n": ("below", 3)})])
        met = {}
        for forth in product(range(4), repeat=3):
            for back in product(range(4), repeat=3):
                move = turn(lambda value: forth[value], lambda value: back[value], ("below", 3), ("below", 3))
                wanted = self.over_three(forth, back)
                told = show_kept(move, form, numbers(2, 0, 1), numbers(1, 2, 0))
                self.same(told, wanted)
                met[wanted[:2]] = met.get(wanted[:2], 0) + 1
        self.assertEqual(sum(met.values()), 4 ** 6)
        self.assertEqual(met[("kept", 3)], 6)
        self.assertEqual({word for verdict, word in met}, {3, "form", "back"})

    def over_three(self, forth, back):
        for old in (2, 0, 1):
            new = forth[old]
            if new == 3:
                return ("broken", "form", numbers(old, 3))
            if back[new] != old:
                return ("broken", "back", numbers(old, new, back[new]))
        return ("kept", 3, 3)

    def test_all_ways_from_two_numbers_to_three(self):
        old_form = form_of(SIZE, [("main", "head", {"n": ("below", 2)})])
        words = set()
        for forth in product(range(4), repeat=2):
            for back in product(range(3), repeat=3):
                move = turn(lambda value: forth[value], lambda value: back[value], ("below", 2), ("below", 3))
                wanted = self.two_to_three(forth, back)
                self.same(show_kept(move, old_form, numbers(1, 0), numbers(0, 2, 1)), wanted)
                words.add(wanted[1])
        self.assertEqual(words, {"form", "back", "old form", "put"})

    def two_to_three(self, forth, back):
        for old in (1, 0):
            new = forth[old]
            if new == 3:
                return ("broken", "form", numbers(old, 3))
            if back[new] != old:
                return ("broken", "back", numbers(old, new, back[new]))
        for old in (1, 0):
            for new in (0, 2, 1):
                came = back[new]
                if came == 2:
                    return ("broken", "old form", numbers(old, new, 2))
                if forth[came] != new:
                    return ("broken", "put", numbers(old, new, came, forth[came]))
        return ("kept", 2, 3)


class TestLost(ShowCase):
    def lost(self, move, form, olds, wanted):
        self.same(self.tells(show_lost, move, form, olds), wanted)

    def test_arguments_by_name(self):
        self.assertIsNone(show_lost(move=Move(), form=NUMBERS, olds=[]))

    def test_none(self):
        self.lost(Move(), NUMBERS, [], None)
        self.lost(Cap("main", "n", 2), NUMBERS, numbers(7), None)
        self.lost(Cap("main", "n", 2), NUMBERS, numbers(7, 1, 0), None)
        self.lost(Shift("main", "n", 2), NUMBERS, numbers(*range(60)), None)
        self.lost(Put("main", "p", WHOLE, 1), NUMBERS, numbers(*range(60)), None)

    def test_the_first_pair(self):
        cap = Cap("main", "n", 2)
        self.lost(cap, NUMBERS, numbers(3, 2), (number(3), number(2), number(2)))
        self.lost(cap, NUMBERS, numbers(2, 3), (number(2), number(3), number(2)))
        self.lost(cap, NUMBERS, numbers(1, 5, 0, 3, 9), (number(5), number(3), number(2)))

    def test_the_later_piece_decides(self):
        halved = turn(lambda value: value // 2, lambda value: value * 2)
        self.lost(halved, NUMBERS, numbers(0, 2, 4, 5, 3, 1), (number(4), number(5), number(2)))
        self.lost(halved, NUMBERS, numbers(0, 2, 4, 3, 5, 1), (number(2), number(3), number(1)))
        self.lost(halved, NUMBERS, numbers(0, 2, 4, 1, 3, 5), (number(0), number(1), number(0)))

    def test_fresh_left_rests(self):
        # A put that is taken back loses what is not in the other columns.
        form = form_of(SIZE, [("main", "head", {"n": WHOLE, "p": WHOLE})])
        olds = [{"main": [{"n": n, "p": p}]} for n in (1, 2) for p in (5, 6)]
        self.lost(Turned(Put("main", "p", WHOLE, 5)), form, olds, (olds[0], olds[1], number(1)))
        self.lost(Turned(Put("main", "p", WHOLE, 5)), form, olds[1:], (olds[2], olds[3], number(2)))
        self.lost(Turned(Put("main", "p", WHOLE, 5)), form, olds[1:3], None)

    def test_a_chain(self):
        chain = Chain([Put("main", "p", WHOLE, 1), Cap("main", "n", 0), Rename("main", "n", "m")])
        came = {"main": [{"m": 0, "p": 1}]}
        self.lost(chain, NUMBERS, numbers(-1, 4, 3), (number(4), number(3), came))

    def test_rows(self):
        form = form_of(SIZE, [("main", "head", {}), ("more", "many", {"n": WHOLE})])
        olds = small(form, n=[1, 2, 3])
        cap = Cap("more", "n", 2)
        rows = [{"main": [{}], "more": [{"n": value}]} for value in (2, 3)]
        self.lost(cap, form, olds, (rows[0], rows[1], rows[0]))

    def test_pieces_that_are_equal_are_not_lost(self):
        self.lost(Cap("main", "n", 2), NUMBERS, numbers(1, 1), None)
        self.lost(Cap("main", "n", 2), NUMBERS, numbers(3, 3, 4), (number(3), number(4), number(2)))

    def test_nothing_is_asked_behind_the_first_pair(self):
        def never_nine(value):
            if value == 9:
                raise AssertionError(value)
            return value // 2
        self.lost(turn(never_nine, never_nine), NUMBERS, numbers(1, 0, 9), (number(1), number(0), number(0)))

    def test_all_ways_over_four_numbers(self):
        for forth in product(range(3), repeat=4):
            wanted = None
            pairs = [(later, earlier) for later in range(4) for earlier in range(later) if forth[later] == forth[earlier]]
            if pairs:
                later, earlier = min(pairs)
                wanted = (number(earlier), number(later), number(forth[later]))
            self.same(show_lost(turn(lambda value: forth[value], None), NUMBERS, numbers(0, 1, 2, 3)), wanted)


class TestAlike(ShowCase):
    def alike(self, one, other, form, olds, news):
        self.same(self.tells(show_alike, one, other, form, olds, news), ("alike", len(olds), len(news)))
        self.same(show_alike(other, one, form, olds, news), ("alike", len(olds), len(news)))

    def unlike(self, one, other, form, olds, news, word, trail):
        self.same(self.tells(show_alike, one, other, form, olds, news), ("unlike", word, trail))
        turned_round = trail[:-2] + [trail[-1], trail[-2]]
        self.same(show_alike(other, one, form, olds, news), ("unlike", word, turned_round))

    def test_arguments_by_name(self):
        told = show_alike(one=Move(), other=Chain([]), form=NUMBERS, olds=numbers(1, 2), news=numbers(3))
        self.same(told, ("alike", 2, 1))

    def test_alike(self):
        self.alike(Move(), Move(), NUMBERS, [], [])
        self.alike(Move(), Chain([]), NUMBERS, numbers(1, 2), numbers(1, 2, 3))
        self.alike(Shift("main", "n", 3), Chain([Shift("main", "n", 1), Shift("main", "n", 2)]), NUMBERS, numbers(1, 2), numbers(1))
        self.alike(Cap("main", "n", 2), Chain([Cap("main", "n", 2), Move()]), NUMBERS, numbers(1, 2, 3), numbers(1, 2))
        self.alike(Cap("main", "n", 2), Turned(Turned(Cap("main", "n", 2))), NUMBERS, numbers(1, 2, 3), numbers(1, 2))
        self.alike(Move(), Move(), NUMBERS, numbers(*range(60)), numbers(*range(60)))

    def test_moves_laid_together(self):
        form = form_of(SIZE, [("main", "head", {"n": WHOLE}), ("more", "many", {"n": WHOLE})])
        moves = [Put("more", "p", WHOLE, 5), Rename("more", "p", "q"), Shift("main", "n", 2), Shift("main", "n", 1), Cap("more", "n", 1)]
        chain = Chain(moves)
        other = Chain([move_of(words) for words in laid([move.words() for move in moves])])
        self.assertEqual(len(other.moves), 3)
        news = pieces_of(chain.after(form), {("main", "n"): [1], ("more", "n"): [0, 1], ("more", "q"): [5, 6]})
        self.alike(chain, other, form, small(form, n=[1, 2]), news)

    def test_unlike_by_form(self):
        one = Cap("main", "n", 2)
        other = Cap("main", "n", 3)
        self.unlike(one, other, NUMBERS, numbers(1), [], "form", [one.after(NUMBERS), other.after(NUMBERS)])
        self.unlike(Move(), Rename("main", "n", "m"), NUMBERS, [], [], "form", [NUMBERS, Rename("main", "n", "m").after(NUMBERS)])

    def test_form_ahead_of_forth(self):
        one = Put("main", "p", WHOLE, 1)
        other = Put("main", "p", ("upto", 5), 2)
        self.unlike(one, other, NUMBERS, numbers(1), [], "form", [one.after(NUMBERS), other.after(NUMBERS)])

    def test_unlike_by_forth(self):
        one = Put("main", "p", WHOLE, 1)
        other = Put("main", "p", WHOLE, 2)
        came = [{"main": [{"n": 7, "p": value}]} for value in (1, 2)]
        self.unlike(one, other, NUMBERS, numbers(7, 8), came, "forth", [number(7)] + came)
        self.alike(one, other, NUMBERS, [], came)
        same_until_three = turn(lambda value: value if value < 3 else 0, lambda value: value)
        self.unlike(Move(), same_until_three, NUMBERS, numbers(1, 2, 5, 4), numbers(1), "forth", [number(5), number(5), number(0)])

    def test_unlike_by_back(self):
        twice = turn(lambda value: value * 2, lambda value: value // 2)
        other = turn(lambda value: value * 2, lambda value: (value + 1) // 2)
        self.unlike(twice, other, NUMBERS, numbers(1, 2), numbers(2, 4, 5, 7), "back", [number(1), number(5), number(2), number(3)])
        self.alike(twice, other, NUMBERS, numbers(1, 2), numbers(2, 4))
        self.alike(twice, other, NUMBERS, [], numbers(5))

    def test_forth_of_all_olds_ahead_of_back(self):
        one = turn(lambda value: value, lambda value: value)
        other = turn(lambda value: abs(value), lambda value: value + 1)
        self.unlike(one, other, NUMBERS, numbers(1, 2, -3), numbers(1), "forth", [number(-3), number(-3), number(3)])
        self.unlike(one, other, NUMBERS, numbers(1, 2), numbers(1), "back", [number(1), number(1), number(1), number(2)])

    def test_rests_of_the_old_piece_count_in_back(self):
        # Of the capped number only the one move knows what it was.
        one = Chain([Cap("main", "n", 5), Turned(Cap("main", "n", 5))])
        other = turn(lambda value: min(value, 5), lambda value: min(value, 5))
        self.unlike(one, other, NUMBERS, numbers(3, 5, 7, 8), numbers(4, 9), "back", [number(7), number(9), number(7), number(5)])
        self.alike(one, other, NUMBERS, numbers(3, 5), numbers(4, 5, 9))
        self.unlike(one, other, NUMBERS, numbers(8, 7), numbers(4, 5), "back", [number(8), number(5), number(8), number(5)])

    def test_only_pieces_are_held_against_one_another(self):
        # Unlike rests are nothing that the outermost programs see.
        form = form_of(SIZE, [("main", "head", {"n": WHOLE, "p": WHOLE})])
        put = Put("main", "p", WHOLE, 1)
        chain = Chain([Turned(put), Put("main", "q", WHOLE, 3), Turned(Put("main", "q", WHOLE, 3))])
        self.alike(Turned(put), chain, form, [{"main": [{"n": 1, "p": 2}]}], numbers(1, 2))

    def test_nothing_is_asked_behind_the_first_difference(self):
        def until_five(value):
            if value >= 5:
                raise AssertionError(value)
            return value
        one = turn(until_five, until_five)
        self.unlike(one, Shift("main", "n", 1), NUMBERS, numbers(1, 7), numbers(7), "forth", [number(1), number(1), number(2)])
        back = turn(lambda value: value, lambda value: until_five(value) + 1)
        self.unlike(Move(), back, NUMBERS, numbers(1), numbers(2, 7), "back", [number(1), number(2), number(2), number(3)])

    def test_all_ways_over_three_numbers(self):
        words = {}
        for forth in product(range(3), repeat=3):
            for back in product(range(3), repeat=3):
                move = turn(lambda value: forth[value], lambda value: back[value])
                wanted = self.over_three(forth, back)
                self.same(show_alike(Move(), move, NUMBERS, numbers(1, 0), numbers(2, 0, 1)), wanted)
                words[wanted[1]] = words.get(wanted[1], 0) + 1
        self.assertEqual(set(words), {"forth", "back", 2})

    def over_three(self, forth, back):
        for old in (1, 0):
            if forth[old] != old:
                return ("unlike", "forth", numbers(old, old, forth[old]))
        for new in (2, 0, 1):
            if back[new] != new:
                return ("unlike", "back", numbers(1, new, new, back[new]))
        return ("alike", 2, 3)


class TestRefusals(ShowCase):
    def test_no_move(self):
        move = Rename("main", "x", "y")
        for olds, news in (([], []), (numbers(1), numbers(1)), (numbers(*range(61)), numbers(*range(61)))):
            self.same(self.refuses(NoMove, show_kept, move, NUMBERS, olds, news).move, 0)
            self.same(self.refuses(NoMove, show_lost, move, NUMBERS, olds).move, 0)
            self.same(self.refuses(NoMove, show_alike, move, Move(), NUMBERS, olds, news).move, 0)
            self.same(self.refuses(NoMove, show_alike, Move(), move, NUMBERS, olds, news).move, 0)

    def chain(self, number_of):
        # The chain whose move of that number is the first that does not fit.
        return Chain([Shift("main", "n", 1)] * number_of + [Rename("main", "x", "y")])

    def test_the_number_of_a_chains_move(self):
        for place in range(3):
            for many in (0, 1, 61):
                olds = numbers(*range(many))
                self.same(self.refuses(NoMove, show_kept, self.chain(place), NUMBERS, olds, olds).move, place)
                self.same(self.refuses(NoMove, show_lost, self.chain(place), NUMBERS, olds).move, place)
                self.same(self.refuses(NoMove, show_alike, self.chain(place), Move(), NUMBERS, olds, olds).move, place)
                self.same(self.refuses(NoMove, show_alike, Move(), self.chain(place), NUMBERS, olds, olds).move, place)

    def test_of_two_moves_the_ones_first(self):
        for one, other in ((0, 1), (1, 0), (2, 1)):
            self.same(self.refuses(NoMove, show_alike, self.chain(one), self.chain(other), NUMBERS, [], []).move, one)
        # Also where the one's new form differs from all that the other could lead to.
        self.same(self.refuses(NoMove, show_alike, Rename("main", "n", "m"), self.chain(2), NUMBERS, [], []).move, 2)

    def test_too_many(self):
        few = numbers(*range(60))
        many = numbers(*range(61))
        for olds, news in ((many, few), (few, many), (many, many), (many, []), ([], many)):
            self.refuses(TooMany, show_kept, Move(), NUMBERS, olds, news)
            self.refuses(TooMany, show_alike, Move(), Move(), NUMBERS, olds, news)
        self.refuses(TooMany, show_lost, Move(), NUMBERS, many)
        self.refuses(TooMany, show_lost, Move(), NUMBERS, numbers(*range(300)))

    def test_just_sixty(self):
        few = numbers(*range(60))
        self.same(show_kept(Move(), NUMBERS, few, few), ("kept", 60, 60))
        self.same(show_alike(Move(), Move(), NUMBERS, few, few), ("alike", 60, 60))
        self.assertIsNone(show_lost(Move(), NUMBERS, few))

    def test_too_many_ahead_of_what_is_shown(self):
        def never(value):
            raise AssertionError(value)
        many = numbers(*range(61))
        for olds, news in ((many, []), (many[:1], many)):
            self.refuses(TooMany, show_kept, turn(never, never), NUMBERS, olds, news)
            self.refuses(TooMany, show_alike, turn(never, never), Move(), NUMBERS, olds, news)
            self.refuses(TooMany, show_alike, Move(), Rename("main", "n", "m"), NUMBERS, olds, news)
        self.refuses(TooMany, show_lost, turn(never, never), NUMBERS, many)
        self.refuses(TooMany, show_lost, Cap("main", "n", 0), NUMBERS, many)


if __name__ == "__main__":
    unittest.main()
