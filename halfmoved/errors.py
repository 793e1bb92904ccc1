"""The refusals: one class for each, all of them under TableError."""


class TableError(ValueError):
    pass


class StepError(TableError):
    def __init__(self, table, key, place):
        TableError.__init__(self, table, key, place)
        self.table = table
        self.key = key
        self.place = place


class NoTable(StepError):
    pass


class BadRow(StepError):
    pass


class Taken(StepError):
    pass


class Missing(StepError):
    pass


class Lone(StepError):
    pass


class Gap(StepError):
    pass


class Twice(StepError):
    pass


class Nowhere(StepError):
    pass


class NoForm(TableError):
    pass


class NoMove(TableError):
    def __init__(self, move=0):
        TableError.__init__(self, move)
        self.move = move


class NoText(TableError):
    pass


class TooMany(TableError):
    pass


class NotDone(TableError):
    pass


class NoRow(TableError):
    pass
