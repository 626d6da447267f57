"""Deeds: what words do to the states of the least machine."""

from math import lcm

from saidacross.errors import NoDeed, NoWord, TooMany
from saidacross.forms import is_between, is_word
from saidacross.machines import least
from saidacross.walking import ends_of, then


def deed(machine, word):
    """The tuple of the states to which the word leads from the states of the least machine."""
    if not is_word(machine.letters(), word):
        raise NoWord()
    return ends_of(machine.letters(), least(machine).table(), word)


def deeds(machine):
    """The list of tuples (word, deed), each deed with the first word that has it."""
    table = least(machine).table()
    letters = machine.letters()
    steps = [ends_of(letters, table, letter) for letter in letters]
    start = ends_of(letters, table, "")
    found = [("", start)]
    known = {start: True}
    at = 0
    while at < len(found):
        word, moves = found[at]
        for letter, step in zip(letters, steps):
            more = then(moves, step)
            if more not in known:
                known[more] = True
                found.append((word + letter, more))
        if len(found) > 100:
            raise TooMany(100)
        at += 1
    return found


def done(machine, one, other):
    """The deed of doing `one`, then `other`."""
    many = len(least(machine).table())
    if not _is_deed(one, many):
        raise NoDeed()
    if not _is_deed(other, many):
        raise NoDeed()
    return then(one, other)


def steady(machine, word):
    """The least number from 1 on of times of the word that have a steady deed."""
    moves = deed(machine, word)
    # Done n times it is steady just if n is a multiple of the length of each cycle, and
    # n times lead each state to a cycle.
    ahead = 1
    turn = 1
    for state in range(len(moves)):
        tail, cycle = _tail_and_cycle(moves, state)
        ahead = max(ahead, tail)
        turn = lcm(turn, cycle)
    return turn * ((ahead + turn - 1) // turn)


def _tail_and_cycle(moves, state):
    """How many steps lead from the state to a cycle, and how long this cycle is."""
    steps = {}
    at = state
    while at not in steps:
        steps[at] = len(steps)
        at = moves[at]
    return steps[at], len(steps) - steps[at]


def _is_deed(thing, many):
    """Whether it is a tuple of as many states of as many."""
    if not isinstance(thing, tuple) or len(thing) != many:
        return False
    return all([is_between(state, 0, many - 1) for state in thing])
