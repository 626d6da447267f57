"""The three kinds of machines."""

from saidacross.books import book
from saidacross.deeds import deed
from saidacross.forms import is_letter, is_word
from saidacross.machines import least, says
from saidacross.walking import first_parting, first_words


def fixed(machine):
    """Whether each two letters may change places."""
    return _first_unlike(machine) is None


def swap(machine):
    """A tuple (u, a, b, v) of which the machine says yes, and no if a and b change places.

    None if all letters may change places.
    """
    letters = _first_unlike(machine)
    if letters is None:
        return None
    one, other = letters
    fewest = least(machine)
    heres = deed(machine, one + other)
    theres = deed(machine, other + one)
    words = first_words(fewest.letters(), fewest.table())
    state = [at for at in range(len(heres)) if heres[at] != theres[at]][0]
    ahead = words[state]
    behind = first_parting(fewest, fewest, (heres[state], theres[state]))
    if says(machine, ahead + one + other + behind):
        return (ahead, one, other, behind)
    return (ahead, other, one, behind)


def swap_fault(machine, thing):
    """The first fault of what may be a swap of the machine, or None."""
    if not _is_swap(machine.letters(), thing):
        return ("form",)
    u, a, b, v = thing
    if not says(machine, u + a + b + v):
        return ("no",)
    if says(machine, u + b + a + v):
        return ("alike",)
    return None


def kind(machine):
    """The kind: "fixed", "digits" or "length"."""
    # The book comes first, since a machine with too many deeds is told ahead of all.
    pages = book(machine)
    if fixed(machine):
        return "fixed"
    return "length" if pages is None else "digits"


def _first_unlike(machine):
    """The first two letters that may not change places, or None."""
    letters = machine.letters()
    for one in letters:
        for other in letters:
            if deed(machine, one + other) != deed(machine, other + one):
                return (one, other)
    return None


def _is_swap(letters, thing):
    """Whether it is a tuple of a word, two letters and a word."""
    if not isinstance(thing, tuple) or len(thing) != 4:
        return False
    if not is_letter(letters, thing[1]) or not is_letter(letters, thing[2]):
        return False
    return is_word(letters, thing[0]) and is_word(letters, thing[3])
