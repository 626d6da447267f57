"""Blocks: they show that a share of the places must be said."""

from saidacross.deeds import deed
from saidacross.doings import Doings
from saidacross.forms import is_word


def block(machine):
    """A tuple of five words that are a block, or None if there is none."""
    doings = Doings(machine)
    for number in range(len(doings.words)):
        if doings.is_steady(number):
            found = _block_at(doings, number)
            if found is not None:
                return tuple([doings.words[at] for at in found])
    return None


def block_fault(machine, thing):
    """The first fault of what may be a block of the machine, or None."""
    if not _is_five_words(machine.letters(), thing):
        return ("form",)
    e, a, b, c, d = thing
    steady = deed(machine, e)
    if deed(machine, e + e) != steady:
        return ("steady",)
    if deed(machine, e + a + c + e) != steady:
        return ("one",)
    if deed(machine, e + b + d + e) != steady:
        return ("other",)
    if deed(machine, e + a + b + c + d + e) == steady:
        return ("both",)
    return None


def _block_at(doings, e):
    """The numbers of five deeds that are a block with this steady one, or None."""
    # Two kinds of blocks are enough: where there is no book, one of these is so for some
    # lot, and then there is a block of the kind told.
    # - A steady deed of full words is not in the core. Then there are x and y such that
    #   x, then y, is a steady e, y, then x, is a steady f, and nothing leads back to e
    #   from what has e, then f, in it, as x, x, y, y has: (e, x, x, y, y).
    # - Two steady deeds of the core make one that is not. Then each steady e of the core
    #   has a steady x that is e, then x, and a y such that x, then y, is e, but e, then y,
    #   is not. So x, x, y, y is not e, either: (e, x, x, y, y).
    # - Two deeds x and z of the group of e do not change places: with y and w, which
    #   take them back, (e, x, z, y, w).
    pairs = _pairs(doings, e)
    for a, c in pairs:
        if doings.run([a, a, c, c]) != e:
            return (e, a, a, c, c)
    group = [(a, c) for a, c in pairs if doings.both[a][e] == a and doings.both[e][c] == c]
    for a, c in group:
        for b, d in group:
            if doings.run([a, b, c, d]) != e:
                return (e, a, b, c, d)
    return None


def _pairs(doings, e):
    """All (a, c) with: e, then a, is a; c, then e, is c; a, then c, is e."""
    both = doings.both
    ahead = [at for at in range(len(both)) if both[e][at] == at]
    behind = [at for at in range(len(both)) if both[at][e] == at]
    return [(a, c) for a in ahead for c in behind if both[a][c] == e]


def _is_five_words(letters, thing):
    """Whether it is a tuple of five words."""
    if not isinstance(thing, tuple) or len(thing) != 5:
        return False
    return all([is_word(letters, word) for word in thing])
