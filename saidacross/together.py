"""Machines put together of others: the least ones that say so."""

from saidacross.columns import columns_of
from saidacross.errors import NoLetters, NoWord, NoWords, OtherLetters
from saidacross.forms import ALPHABET, is_choice, is_letter, is_word
from saidacross.growing import opposite, paired, shrunk
from saidacross.machines import least
from saidacross.walking import end_of, ends_of


def otherwise(machine):
    """The machine that says yes where this one says no."""
    return opposite(machine)


def both(one, other):
    """The machine that says yes where both say yes."""
    return _paired(one, other, lambda here, there: here and there)


def either(one, other):
    """The machine that says yes where at least one of the two says yes."""
    return _paired(one, other, lambda here, there: here or there)


def backward(machine):
    """The machine that says of each word what this one says of the word from behind."""
    columns, table = columns_of(least(machine))
    accepts = [at for at in range(len(columns)) if columns[at][0] == 1]
    return shrunk(machine.letters(), table, accepts)


def without(machine, letters):
    """The machine for words without these letters."""
    if not is_choice(machine.letters(), letters) or letters == machine.letters():
        raise NoLetters()
    left = [letter for letter in machine.letters() if letter not in letters]
    return _replaced(machine, {letter: letter for letter in left})


def put(machine, words):
    """The machine for new letters that stand for these words."""
    if not _is_words(machine.letters(), words):
        raise NoWords()
    return _replaced(machine, words)


def around(machine, ahead, behind):
    """The machine that says of a word what this one says of it between these two."""
    letters = machine.letters()
    if not is_word(letters, ahead):
        raise NoWord()
    if not is_word(letters, behind):
        raise NoWord()
    table = machine.table()
    accepts = [state for state, end in enumerate(ends_of(letters, table, behind))
               if end in machine.accepts()]
    return shrunk(letters, table, accepts, end_of(letters, table, 0, ahead))


def _paired(one, other, judge):
    """The least machine of what `judge` tells of the flags of two machines of like letters."""
    if one.letters() != other.letters():
        raise OtherLetters()
    return paired(least(one), least(other), judge)


def _replaced(machine, words):
    """The least machine of the keys, each of which stands for its word."""
    letters = "".join(sorted(list(words)))
    steps = [ends_of(machine.letters(), machine.table(), words[letter]) for letter in letters]
    table = tuple([tuple([step[state] for step in steps])
                   for state in range(len(machine.table()))])
    return shrunk(letters, table, machine.accepts())


def _is_words(letters, thing):
    """Whether it is a dict from 1 to 4 letters to words of these letters."""
    if not isinstance(thing, dict) or not 1 <= len(thing) <= 4:
        return False
    return all([is_letter(ALPHABET, letter) and is_word(letters, thing[letter])
                for letter in thing])
