"""Points 20 to 27 once more: long runs of chance writes, held against a slow model that is written otherwise.

The chances come from a seed that is written here, so every run is the same.
"""

import random
import unittest

from halfmoved.errors import StepError
from halfmoved.forms import form_of, is_row
from halfmoved.plain import Plain

SORTS = {"main": "head", "bag": "many", "lines": "some", "twin": "twin"}
COLUMNS = {
    "main": {"at": ("key",), "no": ("once", ("below", 9)), "to": ("key",)},
    "bag": {"at": ("key",), "tag": ("once", ("below", 40))},
    "lines": {"a": ("once", ("below", 60)), "b": ("once", ("below", 60))},
    "twin": {},
}
ORDER = ["main", "bag", "lines", "twin"]
SIZE = 6
FORM = form_of(SIZE, [(table, SORTS[table], COLUMNS[table]) for table in ["main", "twin", "lines", "bag"]])


class Model:
    """All rows in one dict by (table, key, place); every rule asked by looking through it."""

    def __init__(self):
        self.cells = {}

    def write(self, steps):
        cells = dict(self.cells)
        for step in steps:
            fault = self.do(cells, step)
            if fault:
                return fault
        named = sorted({step[2] for step in steps})
        for fault in [self.alone(cells, named), self.once(cells), self.pointers(cells)]:
            if fault:
                return fault
        self.cells = cells
        return named

    def do(self, cells, step):
        word, table, key, place = step[:4]
        spot = (table, key, place)
        if table not in ORDER:
            return ("NoTable",) + spot
        if not 0 <= key < SIZE or place < 0 or (place and SORTS[table] in ("head", "twin")):
            return ("BadRow",) + spot
        if word != "cut" and not is_row(FORM, table, step[4]):
            return ("BadRow",) + spot
        if (spot in cells) == (word == "add"):
            return ("Taken" if word == "add" else "Missing",) + spot
        if word == "cut":
            del cells[spot]
        else:
            cells[spot] = dict(step[4])

    def alone(self, cells, named):
        for key in named:
            if not any(spot[1] == key for spot in cells):
                continue
            for table in ORDER:
                places = [spot[2] for spot in cells if spot[:2] == (table, key)]
                least = min(place for place in range(len(places) + 1) if place not in places)
                if SORTS[table] in ("head", "twin") and not places:
                    return ("Lone", table, key, 0)
                if (SORTS[table] == "some" and not places) or any(place > least for place in places):
                    return ("Gap", table, key, least)

    def once(self, cells):
        for table, column in self.columns("once"):
            spots = sorted(spot for spot in cells if spot[0] == table)
            for at, spot in enumerate(spots):
                if cells[spot][column] in [cells[other][column] for other in spots[:at]]:
                    return ("Twice",) + spot

    def pointers(self, cells):
        for table, column in self.columns("key"):
            for spot in sorted(spot for spot in cells if spot[0] == table):
                value = cells[spot][column]
                if value is not None and ("main", value, 0) not in cells:
                    return ("Nowhere",) + spot

    def columns(self, sort):
        return [(table, column) for table in ORDER for column in sorted(COLUMNS[table]) if COLUMNS[table][column][0] == sort]


class Chances:
    def __init__(self, seed):
        self.chance = random.Random(seed)

    def value(self, kind):
        if kind[0] == "key":
            return self.chance.choice([None, None, None, None, None] + list(range(SIZE + (self.chance.random() < 0.02))))
        return self.chance.randrange(kind[1][1] + (self.chance.random() < 0.02))

    def row(self, table):
        return {column: self.value(kind) for column, kind in COLUMNS[table].items()}

    def coming(self, key):
        steps = [("add", "main", key, 0, self.row("main")), ("add", "twin", key, 0, self.row("twin"))]
        for table, least in (("bag", 0), ("lines", 1)):
            for place in range(self.chance.randint(least, 3)):
                steps.append(("add", table, key, place, self.row(table)))
        return steps

    def going(self, cells, key):
        return [("cut",) + spot for spot in cells if spot[1] == key]

    def changed(self, cells):
        spots = sorted(cells) or [("main", 0, 0)]
        table, key, place = self.chance.choice(spots)
        word = self.chance.choice(["set", "set", "set", "add", "cut"])
        if word == "add":
            place = len([spot for spot in cells if spot[:2] == (table, key)])
        if self.chance.random() < 0.1:
            place = place + self.chance.choice([-1, 1])
        if self.chance.random() < 0.03:
            key = self.chance.randint(-1, SIZE)
        if self.chance.random() < 0.02:
            return (word, "none", key, place) + (() if word == "cut" else ({},))
        return (word, table, key, place) + (() if word == "cut" else (self.row(table),))

    def steps(self, cells):
        steps = []
        for turn in range(self.chance.randint(0, 3)):
            key = self.chance.randrange(SIZE)
            if any(spot[1] == key for spot in cells):
                if self.chance.random() < 0.15:
                    steps.extend(self.going(cells, key))
                else:
                    steps.append(self.changed(cells))
            else:
                steps.extend(self.coming(key))
        if self.chance.random() < 0.3:
            self.chance.shuffle(steps)
        if steps and self.chance.random() < 0.1:
            steps.pop(self.chance.randrange(len(steps)))
        return steps


def told(plain, steps):
    try:
        return plain.write(steps)
    except StepError as error:
        return (error.__class__.__name__, error.table, error.key, error.place)


class TestAgainstTheModel(unittest.TestCase):
    def agree(self, plain, model):
        for table in ORDER:
            cells = sorted(spot for spot in model.cells if spot[0] == table)
            rows = [(key, place, model.cells[(name, key, place)]) for name, key, place in cells]
            self.assertEqual(plain.rows(table), rows)
        held = sorted(spot[1] for spot in model.cells if spot[0] == "main")
        self.assertEqual(plain.held(), held)

    def run_of(self, seed, met):
        chances = Chances(seed)
        plain = Plain(FORM)
        model = Model()
        for turn in range(150):
            steps = chances.steps(model.cells)
            answer = model.write(steps)
            self.assertEqual(told(plain, steps), answer, (seed, turn, steps))
            self.agree(plain, model)
            met.add("done" if isinstance(answer, list) else answer[0])
        again = Plain(FORM, {key: plain.piece(key) for key in reversed(plain.held())})
        self.agree(again, model)

    def test_long_runs_of_writes(self):
        met = set()
        for seed in range(12):
            self.run_of(seed, met)
        every = {"done", "NoTable", "BadRow", "Taken", "Missing", "Lone", "Gap", "Twice", "Nowhere"}
        self.assertEqual(met, every)


if __name__ == "__main__":
    unittest.main()
