"""Points 70 to 78 once more: long runs by chance, held against a slow model that keeps every thing in every form at once.

The chances come from seeds that are written here, so every run is the same.
"""

import random
import unittest
from copy import deepcopy

from halfmoved.errors import NoMove, StepError
from halfmoved.forms import is_piece, tables_of
from halfmoved.plain import Plain
from halfmoved.renumber import Renumber
from halfmoved.weave import Weave
from test_chains import fitting_move, random_move
from test_move_case import exact, scribble
from test_move_laws import SIZE, VALUES, random_form

ONCE = ["", "x", "y/z", "a", "b", "c", "d", "e", "f", "g", "h", "i"]


class Everywhere:
    """One thing: its piece in every form, and of every move the left and the right rest."""

    def __init__(self, model, n, piece):
        self.model = model
        self.position = n
        self.pieces = [None] * len(model.forms)
        self.lefts = [None] * len(model.moves)
        self.rights = [None] * len(model.moves)
        self.put(n, piece)

    def put(self, n, piece):
        self.pieces[n] = deepcopy(piece)
        for number in range(n, len(self.model.moves)):
            self.go_forth(number, self.lefts[number])
        for number in reversed(range(n)):
            form = self.model.forms[number + 1]
            move = self.model.moves[number]
            self.rights[number] = move.right(form, self.pieces[number + 1], self.rights[number])
            self.pieces[number], self.lefts[number] = move.back(form, self.pieces[number + 1], self.rights[number])

    def go_forth(self, number, earlier):
        form = self.model.forms[number]
        move = self.model.moves[number]
        self.lefts[number] = move.left(form, self.pieces[number], earlier)
        self.pieces[number + 1], self.rights[number] = move.forth(form, self.pieces[number], self.lefts[number])

    def behind(self):
        self.pieces.append(None)
        self.lefts.append(None)
        self.rights.append(None)
        self.go_forth(len(self.lefts) - 1, None)

    def lies(self):
        return (self.position, self.pieces[self.position], self.rights[:self.position] + self.lefts[self.position:])


class Model:
    def __init__(self, form, things):
        self.forms = [form]
        self.moves = []
        self.things = {root: Everywhere(self, 0, piece) for root, piece in things.items()}

    def behind(self, move):
        self.forms.append(move.after(self.forms[-1]))
        self.moves.append(move)
        for thing in self.things.values():
            thing.behind()

    def key(self, n, root):
        for move in self.moves[:n]:
            root = move.key_forth(root)
        return root

    def pieces(self, n):
        return {self.key(n, root): thing.pieces[n] for root, thing in self.things.items()}

    def write(self, n, steps):
        plain = Plain(self.forms[n], self.pieces(n))
        told = answer(plain.write, steps)
        if isinstance(told, tuple):
            return told
        for root in range(SIZE):
            key = self.key(n, root)
            if key not in told:
                continue
            if key not in plain.held():
                self.things.pop(root, None)
            elif root in self.things:
                self.things[root].put(n, plain.piece(key))
                self.things[root].position = n
            else:
                self.things[root] = Everywhere(self, n, plain.piece(key))
        return told


def answer(ask, *handed):
    try:
        return ask(*handed)
    except StepError as error:
        return (type(error).__name__, error.table, error.key, error.place)


class Chances:
    def __init__(self, seed):
        self.chance = random.Random(seed)

    def value(self, kind, held):
        if kind[0] == "key":
            return self.chance.choice([None, None, None, self.chance.choice(held), self.chance.choice(held), self.chance.randrange(SIZE)])
        if kind[0] == "once":
            return self.chance.choice(ONCE)
        return self.chance.choice(VALUES[kind])

    def piece(self, form, held):
        piece = {}
        for name, sort, columns in form[1]:
            many = 1 if sort in ("head", "twin") else self.chance.randrange(sort == "some", 4)
            piece[name] = [{column: self.value(kind, held) for column, kind in columns} for place in range(many)]
        return piece

    def near(self, form, piece, held):
        # Another piece that is mostly the same.
        other = self.piece(form, held)
        for table in other:
            if self.chance.randrange(3) > 0:
                other[table] = deepcopy(piece[table])
        return other

    def things(self, form):
        # As many by chance as keep the rules.
        things = {}
        for key in self.chance.sample(range(SIZE), 5):
            more = dict(things)
            more[key] = self.piece(form, list(things) + [key])
            try:
                Plain(form, more)
            except StepError:
                continue
            things = more
        return things

    def steps(self, form, things):
        steps = []
        for key in self.chance.sample(range(SIZE), self.chance.randrange(3)) + self.chance.sample(sorted(things), min(len(things), self.chance.randrange(3))):
            steps.extend(self.steps_of(form, key, things))
        if self.chance.randrange(8) == 0:
            self.chance.shuffle(steps)
        if steps and self.chance.randrange(8) == 0:
            steps.pop(self.chance.randrange(len(steps)))
        if self.chance.randrange(20) == 0:
            steps.append(self.chance.choice([("cut", "none", 0, 0), ("cut", "main", SIZE, 0), ("cut", "main", -1, 0), ("add", "main", 0, 0, {"no": 1})]))
        return steps

    def steps_of(self, form, key, things):
        held = list(things) + [key]
        old = things.get(key, {table: [] for table in tables_of(form)})
        new = self.near(form, old, held) if key in things else self.piece(form, held)
        if key in things and self.chance.randrange(6) == 0:
            new = {table: [] for table in old}
        if key in things and self.chance.randrange(5) == 0:
            # Cut and put in again, by one write.
            cuts = [("cut", table, key, place) for table in old for place in range(len(old[table]))]
            return cuts + [("add", table, key, place, row) for table in new for place, row in enumerate(new[table])]
        return [step for table in old for step in self.from_to(table, key, old[table], new[table])]

    def from_to(self, table, key, old, new):
        steps = []
        for place, row in enumerate(new):
            if place >= len(old):
                steps.append(("add", table, key, place, row))
            elif row != old[place] or self.chance.randrange(4) == 0:
                steps.append(("set", table, key, place, row))
        return steps + [("cut", table, key, place) for place in range(len(new), len(old))]


class RunCase(unittest.TestCase):
    def same(self, told, wanted):
        self.assertEqual(exact(told), exact(wanted))

    def agree(self, weave, model, n):
        # All that programs of form n read.
        pieces = model.pieces(n)
        self.same(weave.form_at(n), model.forms[n])
        self.same(weave.held(n), sorted(pieces))
        for key, piece in pieces.items():
            self.assertTrue(is_piece(model.forms[n], piece))
            self.same(weave.piece(n, key), piece)
        plain = Plain(model.forms[n], pieces)
        for table in tables_of(model.forms[n]):
            self.same(weave.rows(n, table), plain.rows(table))

    def lie_alike(self, weave, model):
        for root in range(SIZE):
            if root in model.things:
                self.same(weave.lies(root), model.things[root].lies())
            else:
                self.same(answer(weave.lies, root), ("Missing", "main", root, 0))

    def refuse_alike(self, chances, weave, model, n):
        plain = Plain(model.forms[n], model.pieces(n))
        for count in range(4):
            table = chances.chance.choice(tables_of(model.forms[n]) + ["none"])
            key = chances.chance.randrange(-2, 2 * SIZE)
            place = chances.chance.randrange(-1, 3)
            self.same(answer(weave.row, n, table, key, place), answer(plain.row, table, key, place))
            self.same(answer(weave.piece, n, key), answer(plain.piece, key))
            self.same(answer(weave.rows, n, table), answer(plain.rows, table))


class TestAgainstTheModel(RunCase):
    def test_runs(self):
        met = {}
        for seed in range(45):
            self.run_of(seed, met)
        for word in ("list", "Taken", "Missing", "NoTable", "BadRow", "Lone", "Gap", "Twice", "Nowhere"):
            self.assertGreater(met.get(word, 0), 1, word)

    def run_of(self, seed, met):
        chances = Chances(seed)
        chance = chances.chance
        form = random_form(chance, "main", {"k": ("key",)} if chance.randrange(2) == 0 else {})
        things = chances.things(form)
        weave = Weave(form, things)
        model = Model(form, things)
        for turn in range(24):
            if len(model.moves) < 6 and chance.randrange(4) == 0:
                self.set_behind(chances, weave, model)
            elif model.things and chance.randrange(3) == 0:
                self.carry(chances, weave, model)
            else:
                self.write(chances, weave, model, met)
            self.lie_alike(weave, model)
            n = chance.randrange(len(model.forms))
            self.agree(weave, model, n)
            self.refuse_alike(chances, weave, model, n)
        for n in range(len(model.forms)):
            self.agree(weave, model, n)
            for root in range(SIZE):
                self.same(weave.key_at(n, root), model.key(n, root))
                self.same(weave.root(n, model.key(n, root)), root)
        self.lie_alike(weave, model)

    def set_behind(self, chances, weave, model):
        chance = chances.chance
        move = random_move(chance, model.forms[-1])
        try:
            move.after(model.forms[-1])
        except NoMove:
            self.assertRaises(NoMove, weave.behind, move)
        move = Renumber(chance.choice([2, 4, 5]), chance.randrange(SIZE), SIZE)
        if chance.randrange(4) > 0:
            move = fitting_move(chance, model.forms[-1], 1)
        self.assertIsNone(weave.behind(move))
        model.behind(move)
        self.assertEqual(weave.many_forms(), len(model.forms))
        self.assertIs(weave.move_at(len(model.moves) - 1), move)

    def carry(self, chances, weave, model):
        root = chances.chance.choice(sorted(model.things))
        n = chances.chance.randrange(len(model.forms))
        self.assertIsNone(weave.carry(root, n))
        model.things[root].position = n

    def write(self, chances, weave, model, met):
        n = chances.chance.randrange(len(model.forms))
        steps = chances.steps(model.forms[n], model.pieces(n))
        handed = deepcopy(steps)
        told = answer(weave.write, n, handed)
        self.same(handed, steps)
        scribble(handed)
        wanted = model.write(n, steps)
        self.same(told, wanted)
        word = "list" if isinstance(wanted, list) else wanted[0]
        met[word] = met.get(word, 0) + 1


class TestWhereThingsLie(RunCase):
    # Point 78: three weaves with the same writes and moves; of the first one no thing is ever carried.
    def test_who_carried_what(self):
        done = 0
        for seed in range(100, 120):
            done = done + self.run_of(seed)
        self.assertGreater(done, 100)

    def run_of(self, seed):
        chances = Chances(seed)
        chance = chances.chance
        form = random_form(chance, "main", {})
        things = chances.things(form)
        weaves = [Weave(form, things) for count in range(3)]
        done = 0
        for turn in range(16):
            last = weaves[0].many_forms() - 1
            if last < 5 and chance.randrange(3) == 0:
                move = fitting_move(chance, weaves[0].form_at(last), 1)
                for weave in weaves:
                    weave.behind(move)
                last = last + 1
            self.carry_by_chance(chance, weaves[1], last)
            self.carry_all(weaves[2], chance.randrange(last + 1))
            n = chance.randrange(last + 1)
            pieces = {key: weaves[0].piece(n, key) for key in weaves[0].held(n)}
            steps = chances.steps(weaves[0].form_at(n), pieces)
            told = [answer(weave.write, n, steps) for weave in weaves]
            self.same(told[1:], told[:1] * 2)
            done = done + isinstance(told[0], list)
            self.read_alike(weaves, last)
        return done

    def carry_by_chance(self, chance, weave, last):
        for root in weave.held(0):
            if chance.randrange(2) == 0:
                weave.carry(root, chance.randrange(last + 1))

    def carry_all(self, weave, n):
        for root in weave.held(0):
            weave.carry(root, n)
            self.same(weave.lies(root)[0], n)

    def read_alike(self, weaves, last):
        for n in range(last + 1):
            reads = [[weave.rows(n, table) for table in tables_of(weave.form_at(n))] for weave in weaves]
            self.same(reads[1:], reads[:1] * 2)
        # Carried to the last form, the things of all weaves are the same; copies are, so that the weaves stay as they are.
        copies = deepcopy(weaves)
        for root in copies[0].held(0):
            lies = []
            for weave in copies:
                weave.carry(root, last)
                lies.append(weave.lies(root))
            self.same(lies[1:], lies[:1] * 2)


if __name__ == "__main__":
    unittest.main()
