"""Words cut into full pieces, and what is made between two words with enough of them."""

from math import lcm

from saidacross.booked import booked
from saidacross.errors import NoCounts, NoLot, NoWord
from saidacross.forms import ALPHABET, is_between, is_lot, is_word
from saidacross.lots import group_numbers


def pieces(lot, word):
    """The full pieces of the word, cut from the left, and what is left behind them."""
    _check(lot, word)
    return _cut(lot, word)


def pieces_back(lot, word):
    """What is left ahead of the full pieces, cut from the right, and these."""
    _check(lot, word)
    found, rest = _cut(lot, word[::-1])
    return rest[::-1], [piece[::-1] for piece in reversed(found)]


def modulus(machine, lot):
    """The least number of times by which each deed of a group of the core is steady."""
    doings, pages = booked(machine, lot)
    return turns(doings, lot, doings.number(pages[lot][1]))


def between(machine, lot, left, counts, right):
    """The deed of left + m + right for each m with so many of each letter of the lot."""
    doings, pages = booked(machine, lot)
    depth = pages[lot][0]
    if not _is_deep(lot, left, depth):
        raise NoWord()
    if not _is_counts(counts, len(lot)):
        raise NoCounts()
    if not _is_deep(lot, right, depth):
        raise NoWord()
    middle = [doings.times(doings.number(letter), many) for letter, many in zip(lot, counts)]
    ends = (doings.number(left), doings.number(right))
    return doings.moves[doings.run([ends[0]] + middle + [ends[1]])]


def turns(doings, lot, number):
    """The least number of times by which each deed of the group of this one is steady."""
    many = 1
    for one in group_numbers(doings, lot, number):
        many = lcm(many, _turn(doings, one))
    return many


def _turn(doings, number):
    """The least number of times from 1 on by which a deed of a group is steady."""
    many = 1
    power = number
    while not doings.is_steady(power):
        power = doings.both[power][number]
        many += 1
    return many


def _cut(lot, word):
    """The full pieces of the word from the left, as short as can be, and the rest."""
    found = []
    begin = 0
    have = {}
    for at, letter in enumerate(word):
        have[letter] = True
        if len(have) == len(lot):
            found.append(word[begin:at + 1])
            begin = at + 1
            have = {}
    return found, word[begin:]


def _check(lot, word):
    """Raises the error of a wrong lot, or of a word that is none of it."""
    if not is_lot(ALPHABET, lot):
        raise NoLot()
    if not is_word(lot, word):
        raise NoWord()


def _is_deep(lot, thing, depth):
    """Whether it is a word of the lot with at least so many full pieces."""
    return is_word(lot, thing) and len(_cut(lot, thing)[0]) >= depth


def _is_counts(thing, many):
    """Whether it is a tuple of as many counts."""
    if not isinstance(thing, tuple) or len(thing) != many:
        return False
    return all([is_between(count, 0, 10 ** 30) for count in thing])
