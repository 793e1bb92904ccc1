"""The language of moves: lines and programs of lines, the words that they tell, and moves made of words."""

from halfmoved.chains import Chain, Turned
from halfmoved.errors import NoText
from halfmoved.kinds import fits, is_kind, is_name, is_sign, is_whole
from halfmoved.moves import WHOLE, Cap, Put, Rename
from halfmoved.parts import WORD, Part, Split
from halfmoved.renumber import Renumber, divisor
from halfmoved.sides import Cleave, Rows
from halfmoved.texts import ask_text, kind_of, kind_text, value_of, value_text
from halfmoved.turns import Shift

MOST_BACKS = 6
MOST_COLUMNS = 12
NEVER_PUT = ("key", "once")
SHAPES = {
    "cap": ("name", "name", "whole"),
    "rename": ("name", "name", "name"),
    "part": ("name", "name", "name", "name", "from one"),
    "split": ("name", "name", "sign"),
    "shift": ("name", "name", "whole"),
    "rows": ("name", "name"),
    "renumber": ("whole", "whole", "from one"),
}


def program(text):
    if text == "":
        return []
    return [words_of(line) for line in text.split("\n")]


def words_of(line):
    told = line.split(" ")
    backs = backs_ahead(told)
    ask_text(backs <= MOST_BACKS and backs < len(told), "too many times back, or nothing behind it")
    words = words_read(told[backs], told[backs + 1:])
    for turn in range(backs):
        words = ("back", words)
    return words


def backs_ahead(told):
    backs = 0
    while backs < len(told) and told[backs] == "back":
        backs = backs + 1
    return backs


def words_read(verb, told):
    if verb == "put":
        return put_read(told)
    if verb == "cleave":
        return cleave_read(told)
    ask_text(verb in SHAPES, "no move is called so")
    ask_text(len(told) == len(SHAPES[verb]), "too few or too many words")
    fields = [field_of(shape, word) for shape, word in zip(SHAPES[verb], told)]
    if verb == "renumber":
        ask_numbers(fields[0], fields[1], fields[2])
    return (verb,) + tuple(fields)


def put_read(told):
    ask_text(len(told) == 4, "too few or too many words")
    table = name_of(told[0])
    column = name_of(told[1])
    kind = kind_of(told[2])
    ask_text(kind[0] not in NEVER_PUT, "a kind that is never put in")
    return ("put", table, column, kind, value_of(kind, told[3]))


def cleave_read(told):
    names = [name_of(word) for word in told]
    columns = names[1:]
    ask_text(len(names) > 0 and len(columns) <= MOST_COLUMNS, "too few or too many words")
    ask_text(columns == sorted(set(columns)), "columns that are not sorted, or told twice")
    return ("cleave", names[0], tuple(columns))


def ask_numbers(times, plus, size):
    ask_text(0 <= times < size and 0 <= plus < size, "a number that is not below the size")
    ask_text(divisor(times, size) == 1, "a common divisor")


def field_of(shape, word):
    if shape == "name":
        return name_of(word)
    if shape == "sign":
        return sign_of(word)
    number = value_of(WHOLE, word)
    ask_text(shape == "whole" or number >= 1, "a number below 1")
    return number


def name_of(word):
    ask_text(is_name(word), "no name")
    return word


def sign_of(word):
    sign = value_of(WORD, word)
    ask_text(is_sign(sign), "not just one sign")
    return sign


def line_of(words):
    told = []
    within = words
    while within[0] == "back":
        told.append("back")
        within = within[1]
    ask_text(len(told) <= MOST_BACKS, "too many times back")
    told.append(within[0])
    told.extend(fields_written(within))
    return " ".join(told)


def fields_written(words):
    if words[0] == "put":
        return put_written(words[1], words[2], words[3], words[4])
    if words[0] == "cleave":
        return [name_of(words[1])] + [name_of(column) for column in words[2]]
    ask_text(words[0] in SHAPES, "a chain has no line")
    return [field_text(shape, field) for shape, field in zip(SHAPES[words[0]], words[1:])]


def put_written(table, column, kind, value):
    ask_text(is_kind(kind) and kind[0] not in NEVER_PUT, "no kind that may be put in")
    ask_text(fits(kind, value, 1), "a value that does not fit its kind")
    return [name_of(table), name_of(column), kind_text(kind), value_text(kind, value)]


def field_text(shape, field):
    # How long a number is goes unasked: moves that are laid together may tell longer ones than are read.
    if shape == "name":
        return name_of(field)
    if shape == "sign":
        ask_text(is_sign(field), "not just one sign")
        return value_text(WORD, field)
    ask_text(is_whole(field), "no whole number")
    return value_text(WHOLE, field)


def move_of(words):
    if words[0] == "back":
        return Turned(move_of(words[1]))
    if words[0] == "chain":
        return Chain([move_of(inner) for inner in words[1]])
    if words[0] == "rows":
        return Rows(words[1], words[2])
    if words[0] == "cleave":
        return Cleave(words[1], list(words[2]))
    if words[0] == "renumber":
        return Renumber(words[1], words[2], words[3])
    return column_move_of(words)


def column_move_of(words):
    if words[0] == "put":
        return Put(words[1], words[2], words[3], words[4])
    if words[0] == "cap":
        return Cap(words[1], words[2], words[3])
    if words[0] == "rename":
        return Rename(words[1], words[2], words[3])
    if words[0] == "part":
        return Part(words[1], words[2], words[3], words[4], words[5])
    if words[0] == "split":
        return Split(words[1], words[2], words[3])
    if words[0] == "shift":
        return Shift(words[1], words[2], words[3])
    raise NoText("words of no move")
