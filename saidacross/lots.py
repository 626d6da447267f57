"""Lots: strings of letters, and the deeds that are made of them."""

from saidacross.doings import Doings
from saidacross.errors import NoLot
from saidacross.forms import is_lot


def made(machine, lot):
    """The deeds of all words that have no other letters than those of the lot."""
    doings = _doings(machine, lot)
    return [doings.moves[at] for at in made_numbers(doings, lot)]


def fulls(machine, lot):
    """The deeds of all words that have all letters of the lot and no others."""
    doings = _doings(machine, lot)
    return [doings.moves[at] for at in full_numbers(doings, lot)]


def core(machine, lot):
    """The deeds that are made of the lot and come back whatever is made of it between."""
    doings = _doings(machine, lot)
    return [doings.moves[at] for at in core_numbers(doings, lot)]


def lots_of(letters):
    """All lots of these letters, in the order of strings."""
    found = [""]
    at = 0
    while at < len(found):
        lot = found[at]
        found.extend([lot + letter for letter in letters if letter > lot[-1:]])
        at += 1
    return found[1:]


def made_numbers(doings, lot):
    """The numbers of the deeds that are made of the lot, ascending."""
    known = {0: True}
    found = [0]
    at = 0
    while at < len(found):
        row = doings.follow[found[at]]
        for letter in lot:
            if row[letter] not in known:
                known[row[letter]] = True
                found.append(row[letter])
        at += 1
    return sorted(found)


def full_words(doings, lot):
    """The tuples (word, number) of the deeds of full words, each with its first full word.

    They stand in the order of these words.
    """
    # Words are alike here if they have the same deed and the same letters.
    words = {(0, ""): ""}
    found = [(0, "")]
    at = 0
    while at < len(found):
        number, have = found[at]
        for letter in lot:
            more = "".join([sign for sign in lot if sign in have + letter])
            to = (doings.follow[number][letter], more)
            if to not in words:
                words[to] = words[(number, have)] + letter
                found.append(to)
        at += 1
    return [(words[pair], pair[0]) for pair in found if pair[1] == lot]


def full_numbers(doings, lot):
    """The numbers of the deeds of full words, ascending."""
    return sorted([pair[1] for pair in full_words(doings, lot)])


def core_numbers(doings, lot):
    """The numbers of the deeds of the core, ascending."""
    # A deed comes back whatever is made between just if it leads to as few states as any:
    # what is done behind a deed never leads to more states, and with as few states both
    # ways the deeds between can be done on until all states are back at their places.
    numbers = made_numbers(doings, lot)
    widths = [len(set(doings.moves[at])) for at in numbers]
    narrowest = min(widths)
    return [at for at, width in zip(numbers, widths) if width == narrowest]


def group_numbers(doings, lot, number):
    """The numbers of the group of a steady deed of the core, ascending."""
    ends = [doings.run([number, at, number]) for at in made_numbers(doings, lot)]
    return sorted(set(ends))


def _doings(machine, lot):
    """The deeds of the machine with numbers; the error of the lot comes first."""
    if not is_lot(machine.letters(), lot):
        raise NoLot()
    return Doings(machine)
