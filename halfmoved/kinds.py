"""Kinds of values: what is one, and which values fit it."""

LETTERS = "abcdefghijklmnopqrstuvwxyz"
LONGEST_NAME = 8
PERCENT = 37


def is_whole(thing):
    return isinstance(thing, int) and not isinstance(thing, bool)


def is_name(thing):
    if not isinstance(thing, str) or not 1 <= len(thing) <= LONGEST_NAME:
        return False
    return all([sign in LETTERS for sign in thing])


def is_sign(thing):
    if not isinstance(thing, str) or len(thing) != 1:
        return False
    return " " <= thing <= "~" and ord(thing) != PERCENT


def is_plain(thing):
    if not isinstance(thing, tuple):
        return False
    if len(thing) == 1:
        return thing[0] in ("whole", "word")
    return len(thing) == 2 and is_plain_pair(thing[0], thing[1])


def is_plain_pair(sort, bound):
    if sort == "below":
        return is_whole(bound) and bound >= 1
    if sort == "upto":
        return is_whole(bound)
    return sort == "without" and is_sign(bound)


def is_kind(thing):
    if is_plain(thing):
        return True
    if not isinstance(thing, tuple):
        return False
    if len(thing) == 1:
        return thing[0] == "key"
    return len(thing) == 2 and thing[0] in ("list", "some", "once") and is_plain(thing[1])


def fits(kind, value, size):
    sort = kind[0]
    if sort == "key":
        return value is None or (is_whole(value) and 0 <= value < size)
    if sort == "once":
        return fits_plain(kind[1], value)
    if sort in ("list", "some"):
        return fits_tuple(kind, value)
    return fits_plain(kind, value)


def fits_tuple(kind, value):
    if not isinstance(value, tuple):
        return False
    if kind[0] == "some" and len(value) == 0:
        return False
    return all([fits_plain(kind[1], thing) for thing in value])


def fits_plain(kind, value):
    if kind[0] in ("word", "without"):
        return isinstance(value, str) and (kind[0] == "word" or kind[1] not in value)
    if not is_whole(value):
        return False
    if kind[0] == "below":
        return 0 <= value < kind[1]
    return kind[0] == "whole" or value <= kind[1]
