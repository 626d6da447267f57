"""Rows of two halves: how many strings of each hand are unlike, and what A says once."""

from saidacross.errors import NoNumber, NoRow
from saidacross.forms import is_between, is_word
from saidacross.halftables import HalfTable, check_lengths
from saidacross.ranks import rank_of
from saidacross.walking import end_of


def halves(machine, ahead, behind):
    """How many strings of A, and of B, are unlike, and the rank of the table of answers."""
    check_lengths((ahead, behind))
    rows = HalfTable(machine).rows(ahead, behind)
    columns = [tuple([row[at] for row in rows]) for at in range(len(rows[0]))]
    ones = sorted(set(rows))
    return (len(ones), len(set(columns)), rank_of([list(row) for row in ones]))


def settled(machine):
    """The least lengths from which on `halves` stays the same."""
    # All states and all columns are unlike: none of them can be missed.
    table = HalfTable(machine)
    return (max(table.depths), max(table.lengths))


def once(machine, ahead, behind, told):
    """The number of the class of alike strings of A in which the string lies."""
    check_lengths((ahead, behind))
    table = HalfTable(machine)
    if not _is_string(machine.letters(), ahead, told):
        raise NoRow()
    # Those states come first to which so few letters lead: each one has its class.
    classes = table.class_states(ahead, behind)[1]
    return classes[_led(table.fewest, 0, told)]


def heard_once(machine, ahead, behind, number, told):
    """What the machine says of a string of A of this class with the string of B behind."""
    check_lengths((ahead, behind))
    table = HalfTable(machine)
    firsts = table.class_states(ahead, behind)[0]
    if not is_between(number, 0, len(firsts) - 1):
        raise NoNumber()
    if not _is_string(machine.letters(), behind, told):
        raise NoRow()
    return _led(table.fewest, firsts[number], told) in table.fewest.accepts()


def _is_string(letters, many, thing):
    """Whether it is a string of so many letters and empty places."""
    return is_word(letters + ".", thing) and len(thing) == many


def _led(fewest, state, told):
    """The state to which the letters of the string lead from this one."""
    return end_of(fewest.letters(), fewest.table(), state, told.replace(".", ""))
