"""Writings of two hands whose tables of answers have great ranks."""

from math import comb

from saidacross.blocks import block, block_fault
from saidacross.errors import IsFixed, NoMark, NoNumber, NotLength
from saidacross.forms import is_between, is_word
from saidacross.kinds import swap
from saidacross.machines import says
from saidacross.partings import around_unlike
from saidacross.walking import end_of, ends_of


def order_writings(machine, size):
    """So many writings of A and of B, by which it counts whose letter is ahead."""
    if not is_between(size, 1, 100):
        raise NoNumber()
    found = swap(machine)
    if found is None:
        raise IsFixed()
    u, a, b, v = found
    # A's places are ahead of B's: so the table has ones where the letter of A comes at the
    # same pair of places or an earlier one, noughts elsewhere, and no row is made of others.
    ones = [u + _at(a, place, size) + v for place in range(size)]
    others = [_at(b, place, size) for place in range(size)]
    return ("A" * len(u) + "AB" * size + "A" * len(v), ones, others)


def mark_block(machine):
    """A block with two words around it by which one sees whether both hold a mark."""
    five = block(machine)
    if five is None:
        raise NotLength()
    ahead, behind = around_unlike(machine, five[0], _both(five))
    return (ahead, five, behind)


def mark_fault(machine, thing):
    """The first fault of what may be a mark block of the machine, or None."""
    letters = machine.letters()
    if not isinstance(thing, tuple) or len(thing) != 3:
        return ("form",)
    ahead, five, behind = thing
    if not is_word(letters, ahead) or not is_word(letters, behind):
        return ("form",)
    fault = block_fault(machine, five)
    if fault is not None:
        return fault
    if says(machine, ahead + five[0] + behind) == says(machine, ahead + _both(five) + behind):
        return ("alike",)
    return None


def mark_writings(machine, thing, marks):
    """The dealing and all writings of so many marks, with the pieces written or left away."""
    if mark_fault(machine, thing) is not None:
        raise NoMark()
    if not is_between(marks, 1, 7):
        raise NoNumber()
    ahead, five, behind = thing
    e, a, b, c, d = five
    mark = "A" * len(a) + "B" * len(b) + "A" * len(c) + "B" * len(d) + "A" * len(e)
    dealing = "A" * len(ahead + e) + mark * marks + "A" * len(behind)
    flags = _all_flags(marks)
    ones = [ahead + e + _pieces(a + c, e, row) + behind for row in flags]
    others = [_pieces(b + d, "", row) for row in flags]
    return (dealing, ones, others)


def mark_rank(machine, thing, marks):
    """The rank of the table of the writings of so many marks."""
    if mark_fault(machine, thing) is not None:
        raise NoMark()
    if not is_between(marks, 1, 300):
        raise NoNumber()
    total = 0
    row = _mark_answers(machine, thing, marks)
    # The first of the differences of the differences, and so on, are the numbers D(s).
    for many in range(marks + 1):
        if row[0] != 0:
            total += comb(marks, many)
        row = [after - before for before, after in zip(row, row[1:])]
    return total


def _at(letter, place, size):
    """So many places, all empty but for this one."""
    return "." * place + letter + "." * (size - 1 - place)


def _both(five):
    """The word of a mark that both hands hold, with the steady word ahead of it."""
    return "".join(five) + five[0]


def _all_flags(marks):
    """All tuples of so many flags, in the order of binary numbers."""
    found = [()]
    for _ in range(marks):
        found = [row + (flag,) for row in found for flag in (False, True)]
    return found


def _pieces(pieces, tail, flags):
    """What a hand writes for the marks: its pieces or empty places, and the tail behind each."""
    return "".join([(pieces if flag else "." * len(pieces)) + tail for flag in flags])


def _mark_answers(machine, thing, marks):
    """A list of 1 for yes and 0 for no of each number of marks that both hold, from 0 on."""
    ahead, five, behind = thing
    letters = machine.letters()
    step = ends_of(letters, machine.table(), _both(five)[len(five[0]):])
    state = end_of(letters, machine.table(), 0, ahead + five[0])
    told = []
    for _ in range(marks + 1):
        end = end_of(letters, machine.table(), state, behind)
        told.append(int(end in machine.accepts()))
        state = step[state]
    return told
