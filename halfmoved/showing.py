"""What is shown of moves over small worlds: kept or broken, what is lost, and whether two moves do alike."""

from halfmoved.errors import TooMany
from halfmoved.forms import is_piece
from halfmoved.moves import owned

MOST_PIECES = 60


def show_kept(move, form, olds, news):
    new = move.after(form)
    ask_few(olds)
    ask_few(news)
    rights = []
    for old in olds:
        left = move.left(form, old)
        came = move.forth(form, old, left)
        broken = broken_forth(move, new, old, left, came)
        if broken is not None:
            return broken
        rights.append(came[1])
    for old, right in zip(olds, rights):
        for piece in news:
            broken = broken_back(move, form, new, old, right, piece)
            if broken is not None:
                return broken
    return ("kept", len(olds), len(news))


def broken_forth(move, new, old, left, came):
    if not is_piece(new, came[0]):
        return told_of("broken", "form", [old, came[0]])
    again = move.back(new, came[0], came[1])
    if again != (old, left):
        return told_of("broken", "back", [old, came[0], again[0]])
    return None


def broken_back(move, form, new, old, earlier, piece):
    right = move.right(new, piece, earlier)
    came = move.back(new, piece, right)
    if not is_piece(form, came[0]):
        return told_of("broken", "old form", [old, piece, came[0]])
    again = move.forth(form, came[0], came[1])
    if again != (piece, right):
        return told_of("broken", "put", [old, piece, came[0], again[0]])
    return None


def show_lost(move, form, olds):
    # The new form is asked for its refusal alone.
    move.after(form)
    ask_few(olds)
    news = []
    for later, old in enumerate(olds):
        came = led_forth(move, form, old)[0]
        for earlier in range(later):
            if news[earlier] == came and olds[earlier] != old:
                return owned((olds[earlier], old, came))
        news.append(came)
    return None


def show_alike(one, other, form, olds, news):
    new = one.after(form)
    other_new = other.after(form)
    ask_few(olds)
    ask_few(news)
    if new != other_new:
        return told_of("unlike", "form", [new, other_new])
    rights = []
    for old in olds:
        came = led_forth(one, form, old)
        other_came = led_forth(other, form, old)
        if came[0] != other_came[0]:
            return told_of("unlike", "forth", [old, came[0], other_came[0]])
        rights.append((came[1], other_came[1]))
    for old, earlier in zip(olds, rights):
        for piece in news:
            came = led_back(one, new, piece, earlier[0])
            other_came = led_back(other, new, piece, earlier[1])
            if came != other_came:
                return told_of("unlike", "back", [old, piece, came, other_came])
    return ("alike", len(olds), len(news))


def ask_few(pieces):
    if len(pieces) > MOST_PIECES:
        raise TooMany("more pieces than are looked at")


def led_forth(move, form, old):
    return move.forth(form, old, move.left(form, old))


def led_back(move, new, piece, earlier):
    return move.back(new, piece, move.right(new, piece, earlier))[0]


def told_of(verdict, word, trail):
    return (verdict, word, owned(trail))
