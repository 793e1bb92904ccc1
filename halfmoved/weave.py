"""The weave: one table, read and written in every form, wherever each of its things lies."""

from halfmoved.errors import Missing, NoForm
from halfmoved.forms import copied, head_of
from halfmoved.kinds import is_whole
from halfmoved.moves import owned
from halfmoved.plain import Plain


class Weave:
    def __init__(self, form, things=None):
        begun = Plain(form, things)
        self.forms = [form]
        self.moves = []
        # By their roots, each as (position, piece, rests); these are exchanged, never changed.
        self.things = {}
        for key in begun.held():
            self.things[key] = (0, begun.piece(key), [])

    def behind(self, move):
        last = len(self.moves)
        new = move.after(self.forms[last])
        things = {}
        for root, thing in self.things.items():
            rest = move.left(self.forms[last], self.brought(thing, last)[1])
            things[root] = (thing[0], thing[1], thing[2] + [rest])
        self.moves.append(move)
        self.forms.append(new)
        self.things = things

    def many_forms(self):
        return len(self.forms)

    def form_at(self, n):
        ask_number(n, len(self.forms))
        return self.forms[n]

    def move_at(self, n):
        ask_number(n, len(self.moves))
        return self.moves[n]

    def root(self, n, key):
        ask_number(n, len(self.forms))
        for number in range(n - 1, -1, -1):
            key = self.moves[number].key_back(key)
        return key

    def key_at(self, n, root):
        ask_number(n, len(self.forms))
        key = root
        for number in range(n):
            key = self.moves[number].key_forth(key)
        return key

    def row(self, n, table, key, place=0):
        return self.lone_table(n, key).row(table, key, place)

    def rows(self, n, table):
        return self.table_at(n, list(self.things)).rows(table)

    def piece(self, n, key):
        return self.lone_table(n, key).piece(key)

    def held(self, n):
        return sorted(self.roots_by_key(n))

    def write(self, n, steps):
        table = self.table_at(n, list(self.things))
        named = table.write(steps)
        held = table.held()
        things = dict(self.things)
        for key in named:
            root = self.root(n, key)
            if key in held:
                things[root] = self.settled(n, table.piece(key), self.rests_at(n, root))
            elif root in things:
                things.pop(root)
        self.things = things
        return named

    def lies(self, root):
        self.ask_there(root)
        thing = self.things[root]
        return (thing[0], copied(thing[1]), owned(thing[2]))

    def carry(self, root, n):
        ask_number(n, len(self.forms))
        self.ask_there(root)
        self.things[root] = self.brought(self.things[root], n)

    def ask_there(self, root):
        if root not in self.things:
            raise Missing(head_of(self.forms[0]), root, 0)

    def roots_by_key(self, n):
        ask_number(n, len(self.forms))
        return dict([(self.key_at(n, root), root) for root in self.things])

    def lone_table(self, n, key):
        # The root is looked up among those of things: beyond the size a key may not be led back.
        by_key = self.roots_by_key(n)
        return self.table_at(n, [by_key[key]] if key in by_key else [])

    def table_at(self, n, roots):
        ask_number(n, len(self.forms))
        table = Plain(self.forms[n])
        # Given without asking the rules: they held when the things were written, and some may be left out here.
        table.things = dict([(self.key_at(n, root), self.brought(self.things[root], n)[1]) for root in roots])
        return table

    def brought(self, thing, n):
        position = thing[0]
        piece = thing[1]
        rests = list(thing[2])
        for number in range(position, n):
            told = self.moves[number].forth(self.forms[number], piece, rests[number])
            piece = told[0]
            rests[number] = told[1]
        for number in range(position - 1, n - 1, -1):
            told = self.moves[number].back(self.forms[number + 1], piece, rests[number])
            piece = told[0]
            rests[number] = told[1]
        return (n, piece, rests)

    def rests_at(self, n, root):
        if root not in self.things:
            return [None] * len(self.moves)
        return self.brought(self.things[root], n)[2]

    def settled(self, n, piece, had):
        rests = list(had)
        here = piece
        for number in range(n, len(self.moves)):
            move = self.moves[number]
            rests[number] = move.left(self.forms[number], here, had[number])
            here = move.forth(self.forms[number], here, rests[number])[0]
        here = piece
        for number in range(n - 1, -1, -1):
            move = self.moves[number]
            rests[number] = move.right(self.forms[number + 1], here, had[number])
            here = move.back(self.forms[number + 1], here, rests[number])[0]
        return (n, piece, rests)


def ask_number(n, many):
    if not is_whole(n) or not 0 <= n < many:
        raise NoForm("no form or move has that number")
