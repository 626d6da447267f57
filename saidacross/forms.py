"""Judges of values that are handed in: each one takes a value of any kind and returns a flag."""

ALPHABET = "abcdefghijklmnopqrstuvwxyz"


def is_integer(thing):
    """Whether it is an integer and no flag."""
    return isinstance(thing, int) and not isinstance(thing, bool)


def is_between(thing, low, high):
    """Whether it is an integer from `low` to `high`."""
    return is_integer(thing) and low <= thing <= high


def is_ascending(row):
    """Whether each item of the string or tuple is less than the next one."""
    return all([one < other for one, other in zip(row, row[1:])])


def is_letters(thing):
    """Whether it is a string of 1 to 4 different letters from `a` to `z`, ascending."""
    if not isinstance(thing, str) or not 1 <= len(thing) <= 4:
        return False
    return all(["a" <= sign <= "z" for sign in thing]) and is_ascending(thing)


def is_word(letters, thing):
    """Whether it is a string of these letters, perhaps empty."""
    return isinstance(thing, str) and all([sign in letters for sign in thing])


def is_letter(letters, thing):
    """Whether it is one of these letters."""
    return is_word(letters, thing) and len(thing) == 1


def is_choice(letters, thing):
    """Whether it is a string of different ones of these letters, ascending, perhaps none."""
    return is_word(letters, thing) and is_ascending(thing)


def is_lot(letters, thing):
    """Whether it is a string of one or more different ones of these letters, ascending."""
    return is_choice(letters, thing) and len(thing) > 0
