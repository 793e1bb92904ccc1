"""Moves laid together: a list of their words made flat, and neighbours taken together as long as a rule takes any."""

from halfmoved.renumber import inverse


def laid(rows):
    left = []
    for words in rows:
        left.extend(flat(words, False))
    place = first_taken(left)
    while place is not None:
        left = left[:place] + together(left[place], left[place + 1]) + left[place + 2:]
        place = first_taken(left)
    return left


def flat(words, turned):
    if words[0] == "back":
        return flat(words[1], not turned)
    if words[0] == "chain":
        return flat_chain(words[1], turned)
    return unless_idle(undone(words) if turned else words)


def flat_chain(rows, turned):
    ordered = list(reversed(rows)) if turned else list(rows)
    made = []
    for words in ordered:
        made.extend(flat(words, turned))
    return made


def undone(words):
    if words[0] == "shift":
        return ("shift", words[1], words[2], -words[3])
    if words[0] == "rename":
        return ("rename", words[1], words[3], words[2])
    if words[0] == "renumber":
        times = inverse(words[1], words[3])
        return renumbering(times, -times * words[2], words[3])
    return ("back", words)


def renumbering(times, plus, size):
    return ("renumber", times % size, plus % size, size)


def unless_idle(words):
    return [] if is_idle(words) else [words]


def is_idle(words):
    if words[0] == "shift":
        return words[3] == 0
    return words[0] == "renumber" and renumbering(words[1], words[2], words[3]) == renumbering(1, 0, words[3])


def first_taken(rows):
    for place in range(len(rows) - 1):
        if together(rows[place], rows[place + 1]) is not None:
            return place
    return None


def both_gone(one, other):
    # These two stay: what both outer forms know, each for itself, the form between cannot hold.
    if one[0] == "cap" or (one[0] == "back" and one[1][0] == "put"):
        return None
    return [] if other == ("back", one) or one == ("back", other) else None


def two_shifts(one, other):
    if one[0] != "shift" or other[:3] != one[:3]:
        return None
    return unless_idle(("shift", one[1], one[2], one[3] + other[3]))


def two_renumberings(one, other):
    if one[0] != "renumber" or other[0] != "renumber" or other[3] != one[3]:
        return None
    return unless_idle(renumbering(one[1] * other[1], one[2] * other[1] + other[2], one[3]))


def two_renames(one, other):
    if one[0] != "rename" or other[:3] != ("rename", one[1], one[3]):
        return None
    return [] if other[3] == one[2] else [("rename", one[1], one[2], other[3])]


def put_and_rename(one, other):
    if one[0] != "put" or other[:3] != ("rename", one[1], one[2]):
        return None
    return [("put", one[1], other[3], one[3], one[4])]


def rename_and_put_back(one, other):
    if one[0] != "rename" or other[0] != "back" or other[1][:3] != ("put", one[1], one[3]):
        return None
    return [("back", ("put", one[1], one[2], other[1][3], other[1][4]))]


def together(one, other):
    for told in (
        both_gone(one, other), two_shifts(one, other), two_renumberings(one, other), two_renames(one, other),
        put_and_rename(one, other), rename_and_put_back(one, other),
    ):
        if told is not None:
            return told
    return None
