"""A move turned round, and moves one behind the other."""

from halfmoved.errors import NoMove
from halfmoved.forms import copied
from halfmoved.moves import Move, at_place


class Turned(Move):
    def __init__(self, move):
        self.move = move

    def after(self, form):
        return self.move.before(form)

    def before(self, form):
        return self.move.after(form)

    def forth(self, form, piece, rest):
        return self.move.back(form, piece, rest)

    def back(self, form, piece, rest):
        return self.move.forth(form, piece, rest)

    def left(self, form, piece, rest=None):
        return self.move.right(form, piece, rest)

    def right(self, form, piece, rest=None):
        return self.move.left(form, piece, rest)

    def key_forth(self, key):
        return self.move.key_back(key)

    def key_back(self, key):
        return self.move.key_forth(key)

    def keeps_forth(self):
        return self.move.keeps_back()

    def keeps_back(self):
        return self.move.keeps_forth()

    def words(self):
        told = self.move.words()
        return None if told is None else ("back", told)


class Chain(Move):
    def __init__(self, moves):
        self.moves = tuple(moves)

    def after(self, form):
        for number, move in enumerate(self.moves):
            try:
                form = move.after(form)
            except NoMove:
                raise NoMove(number) from None
        return form

    def before(self, form):
        for number, move in self.from_the_last():
            try:
                form = move.before(form)
            except NoMove:
                raise NoMove(number) from None
        return form

    def from_the_last(self):
        return list(reversed(list(enumerate(self.moves))))

    def forth(self, form, piece, rest):
        # Copied for the chain of no moves, which is to tell a new piece, too.
        piece = copied(piece)
        rights = []
        for number, move in enumerate(self.moves):
            told = move.forth(form, piece, rest[number])
            piece = told[0]
            rights.append(told[1])
            form = move.after(form)
        return (piece, rights)

    def back(self, form, piece, rest):
        piece = copied(piece)
        lefts = []
        for number, move in self.from_the_last():
            told = move.back(form, piece, rest[number])
            piece = told[0]
            lefts.append(told[1])
            form = move.before(form)
        return (piece, list(reversed(lefts)))

    def left(self, form, piece, rest=None):
        lefts = []
        for number, move in enumerate(self.moves):
            own = move.left(form, piece, at_place(rest, number, None))
            lefts.append(own)
            piece = move.forth(form, piece, own)[0]
            form = move.after(form)
        return lefts

    def right(self, form, piece, rest=None):
        rights = []
        for number, move in self.from_the_last():
            own = move.right(form, piece, at_place(rest, number, None))
            rights.append(own)
            piece = move.back(form, piece, own)[0]
            form = move.before(form)
        return list(reversed(rights))

    def key_forth(self, key):
        for move in self.moves:
            key = move.key_forth(key)
        return key

    def key_back(self, key):
        for move in reversed(self.moves):
            key = move.key_back(key)
        return key

    def keeps_forth(self):
        return all([move.keeps_forth() for move in self.moves])

    def keeps_back(self):
        return all([move.keeps_back() for move in self.moves])

    def words(self):
        told = [move.words() for move in self.moves]
        return None if None in told else ("chain", tuple(told))
