"""The three kinds of machines."""

from saidacross.books import book
from saidacross.changes import strict_pairs
from saidacross.forms import is_letter, is_word
from saidacross.machines import says
from saidacross.partings import around_unlike

# The kinds, each one behind those that ask less.
KINDS = ("fixed", "digits", "length")


def fixed(machine):
    """Whether each two letters may change places."""
    return len(strict_pairs(machine)) == 0


def swap(machine):
    """A tuple (u, a, b, v) of which the machine says yes, and no if a and b change places.

    None if all letters may change places.
    """
    pairs = strict_pairs(machine)
    if len(pairs) == 0:
        return None
    one, other = pairs[0]
    ahead, behind = around_unlike(machine, one + other, other + one)
    if says(machine, ahead + one + other + behind):
        return (ahead, one, other, behind)
    return (ahead, other, one, behind)


def swap_fault(machine, thing):
    """The first fault of what may be a swap of the machine, or None."""
    if not _is_swap(machine.letters(), thing):
        return ("form",)
    u, a, b, v = thing
    if not says(machine, u + a + b + v):
        return ("no",)
    if says(machine, u + b + a + v):
        return ("alike",)
    return None


def kind(machine):
    """The kind: "fixed", "digits" or "length"."""
    # The book comes first, since a machine with too many deeds is told ahead of all.
    pages = book(machine)
    if fixed(machine):
        return "fixed"
    return "length" if pages is None else "digits"


def is_at_most(machine, most):
    """Whether the kind of the machine is this one, or one that asks less."""
    return KINDS.index(kind(machine)) <= KINDS.index(most)


def _is_swap(letters, thing):
    """Whether it is a tuple of a word, two letters and a word."""
    if not isinstance(thing, tuple) or len(thing) != 4:
        return False
    if not is_letter(letters, thing[1]) or not is_letter(letters, thing[2]):
        return False
    return is_word(letters, thing[0]) and is_word(letters, thing[3])
