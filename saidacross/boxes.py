"""The core of a lot as a box: each of its deeds is made of a left, a sum and a right one."""

from saidacross.booked import booked
from saidacross.books import steady_core
from saidacross.errors import NoLetter, NoWord
from saidacross.forms import is_letter, is_word
from saidacross.lots import core_numbers, group_numbers


def box(machine, lot):
    """The tuple (lefts, sums, rights) of lists of deeds."""
    doings, pages = booked(machine, lot)
    sides = _sides(doings, lot, doings.number(pages[lot][1]))
    return tuple([[doings.moves[at] for at in side] for side in sides])


def worth(machine, lot, letter):
    """What the letter adds to the sum of a word."""
    doings, pages = booked(machine, lot)
    if not is_letter(lot, letter):
        raise NoLetter()
    e = doings.number(pages[lot][1])
    return doings.moves[doings.run([e, doings.number(letter), e])]


def parted(machine, lot, word):
    """The tuple (left, sum, right) that makes the deed of the word."""
    doings, pages = booked(machine, lot)
    if not is_word(machine.letters(), word):
        raise NoWord()
    number = doings.number(word)
    if number not in core_numbers(doings, lot):
        raise NoWord()
    e = doings.number(pages[lot][1])
    lefts, _, rights = _sides(doings, lot, e)
    # Between two e a left and a right one fall away: only the sum is left.
    total = doings.run([e, number, e])
    found = [(left, total, right) for left in lefts for right in rights
             if doings.run([left, total, right]) == number]
    return tuple([doings.moves[at] for at in found[0]])


def _sides(doings, lot, e):
    """The tuple (lefts, sums, rights) of lists of numbers of deeds."""
    steady = steady_core(doings, lot)
    lefts = [at for at in steady if doings.both[at][e] == at]
    rights = [at for at in steady if doings.both[e][at] == at]
    return lefts, group_numbers(doings, lot, e), rights
