"""Values and kinds, written as texts and read again."""

from halfmoved.errors import NoText
from halfmoved.kinds import fits, is_kind, is_sign

FIGURES = "0123456789"
MOST_FIGURES = 400
KEY = ("key",)
NOWHERE = "-"
ESCAPED = {"\\": "\\", "_": " ", "c": ",", "s": ";"}
NEVER_BARE = " ,;"


def value_text(kind, value):
    if kind[0] in ("list", "some"):
        return "".join([plain_text(thing) + "," for thing in value])
    return NOWHERE if value is None else plain_text(value)


def plain_text(value):
    if not isinstance(value, str):
        return str(value)
    # The backslash goes first, or those that the others bring would be written twice.
    text = value.replace("\\", "\\\\")
    return text.replace(" ", "\\_").replace(",", "\\c").replace(";", "\\s")


def value_of(kind, text):
    if kind == KEY:
        return pointer_of(text)
    if kind[0] in ("list", "some"):
        value = tuple_of(kind[1], text)
    elif kind[0] == "once":
        value = plain_of(kind[1], text)
    else:
        value = plain_of(kind, text)
    # The size of a form counts for pointers alone, so any stands here.
    ask_text(fits(kind, value, 1), "a value that does not fit its kind")
    return value


def pointer_of(text):
    if text == NOWHERE:
        return None
    key = whole_of(text)
    ask_text(key >= 0, "a key below 0")
    return key


def tuple_of(kind, text):
    parts = text.split(",")
    ask_text(parts[-1] == "", "no comma behind the last thing")
    return tuple([plain_of(kind, part) for part in parts[:-1]])


def plain_of(kind, text):
    return word_of(text) if kind[0] in ("word", "without") else whole_of(text)


def whole_of(text):
    figures = text[1:] if text.startswith("-") else text
    # Counted ahead of all else: Python turns no text of some thousand figures into a number.
    ask_text(1 <= len(figures) <= MOST_FIGURES, "a number of no figures, or of too many")
    ask_text(all([figure in FIGURES for figure in figures]), "no figure")
    number = int(text)
    ask_text(str(number) == text, "a number that is written otherwise")
    return number


def word_of(text):
    signs = []
    escaped = False
    for sign in text:
        if escaped:
            ask_text(sign in ESCAPED, "a backslash with another sign behind it")
            signs.append(ESCAPED[sign])
            escaped = False
        elif sign == "\\":
            escaped = True
        else:
            ask_text(is_sign(sign) and sign not in NEVER_BARE, "a sign that does not stand by itself")
            signs.append(sign)
    ask_text(not escaped, "a backslash with no sign behind it")
    return "".join(signs)


def kind_text(kind):
    if len(kind) == 1:
        return kind[0]
    bound = kind_text(kind[1]) if isinstance(kind[1], tuple) else plain_text(kind[1])
    return kind[0] + ":" + bound


def kind_of(text):
    parts = text.partition(":")
    if parts[0] in ("list", "some", "once"):
        kind = (parts[0], inner_kind_of(parts[2]))
    else:
        kind = inner_kind_of(text)
    ask_text(is_kind(kind), "no kind")
    return kind


def inner_kind_of(text):
    # Not every tuple that is told is a kind: kind_of asks for that, of the whole.
    parts = text.partition(":")
    if parts[1] == "":
        return (text,)
    return (parts[0], bound_of(parts[0], parts[2]))


def bound_of(sort, text):
    return word_of(text) if sort == "without" else whole_of(text)


def ask_text(fine, why):
    if not fine:
        raise NoText(why)
