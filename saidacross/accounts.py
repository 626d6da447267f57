"""Accounts: tables of fractions that tell what a machine says."""

from saidacross.comparisons import Comparison
from saidacross.errors import NoAccount, NoWord
from saidacross.forms import ALPHABET, is_letter, is_word
from saidacross.halftables import HalfTable
from saidacross.ranks import multiples
from saidacross.ratios import NOUGHT, ONE, is_ratios
from saidacross.weights import Weights


def account(machine):
    """The account of the machine that is made of its states."""
    table = HalfTable(machine)
    fewest = table.fewest
    # In a column stands what is said from each state: so the states are what is kept.
    shares = multiples(table.columns)
    kept = [state for state in range(len(shares)) if shares[state] is None]
    parts = [_parts(shares, kept, state) for state in range(len(shares))]
    steps = {}
    for at, letter in enumerate(fewest.letters()):
        steps[letter] = tuple([parts[fewest.table()[state][at]] for state in kept])
    last = tuple([ONE if state in fewest.accepts() else NOUGHT for state in kept])
    return (parts[0], steps, last)


def account_value(thing, word):
    """The value of the account for the word."""
    letters = _letters_of(thing)
    if letters is None:
        raise NoAccount()
    if not is_word(letters, word):
        raise NoWord()
    weights = Weights(thing)
    told = weights.first
    for letter in word:
        told = weights.moved(told, letter)
    return weights.ending(told)


def account_fault(machine, thing):
    """The first fault of what may be an account of the machine, or None."""
    if _letters_of(thing) != machine.letters():
        return ("form",)
    word = Comparison(machine, thing).first_unlike()
    return None if word is None else ("word", word)


def _parts(shares, kept, state):
    """The tuple of the multiples of the kept states whose sum this state is."""
    if shares[state] is None:
        return tuple([ONE if state == other else NOUGHT for other in kept])
    return tuple(shares[state] + [NOUGHT] * (len(kept) - len(shares[state])))


def _letters_of(thing):
    """The letters, ascending, of an account of a size up to 200; None if it is no such one."""
    if not isinstance(thing, tuple) or len(thing) != 3:
        return None
    first, steps, last = thing
    if not isinstance(first, tuple) or len(first) > 200:
        return None
    if not is_ratios(first, len(first)) or not is_ratios(last, len(first)):
        return None
    if not isinstance(steps, dict) or not 1 <= len(steps) <= 4:
        return None
    for letter in steps:
        if not is_letter(ALPHABET, letter) or not _is_table(steps[letter], len(first)):
            return None
    return "".join(sorted(list(steps)))


def _is_table(thing, size):
    """Whether it is a tuple of so many tuples of so many fractions."""
    if not isinstance(thing, tuple) or len(thing) != size:
        return False
    return all([is_ratios(row, size) for row in thing])
