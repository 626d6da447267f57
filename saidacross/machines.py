"""Machines: small tables of states that say yes or no of each word."""

from saidacross.errors import NoMachine, NoNumber, NoWord, OtherLetters
from saidacross.forms import is_ascending, is_between, is_letters, is_word
from saidacross.shrinking import least_parts
from saidacross.walking import end_of, ends_of, first_parting, then


class Machine:
    """A machine with 1 to 4 letters and 1 to 6 states. It does not change."""

    def __init__(self, letters, table, accepts):
        if not is_letters(letters):
            raise NoMachine("letters")
        if not _is_table(table, len(letters)):
            raise NoMachine("table")
        if not _is_accepts(accepts, len(table)):
            raise NoMachine("accepts")
        self._letters = letters
        self._table = table
        self._accepts = accepts

    def letters(self):
        """The letters, ascending."""
        return self._letters

    def table(self):
        """For each state the states to which the letters lead."""
        return self._table

    def accepts(self):
        """The states of which the machine says yes, ascending."""
        return self._accepts

    def __eq__(self, other):
        return (isinstance(other, Machine) and self._letters == other._letters
                and self._table == other._table and self._accepts == other._accepts)


def machine_of_parts(letters, table, accepts):
    """The machine with these parts, which are known to fit, with any number of states."""
    # The constructor bounds the number of states; a machine that is returned is not bounded.
    machine = Machine("a", ((0,),), ())
    machine._letters = letters
    machine._table = table
    machine._accepts = accepts
    return machine


def says(machine, word):
    """Whether the machine says yes of the word."""
    letters = machine.letters()
    if not is_word(letters, word):
        raise NoWord()
    return end_of(letters, machine.table(), 0, word) in machine.accepts()


def says_far(machine, word, times):
    """Whether it says yes of the word `times` times, one behind the other."""
    if not is_word(machine.letters(), word):
        raise NoWord()
    if not is_between(times, 0, 10 ** 30):
        raise NoNumber()
    ends = ends_of(machine.letters(), machine.table(), word)
    state = 0
    left = times
    while left > 0:
        if left % 2 == 1:
            state = ends[state]
        ends = then(ends, ends)
        left = left // 2
    return state in machine.accepts()


def least(machine):
    """The machine with the fewest states that says the same of each word."""
    table, accepts = least_parts(machine.table(), machine.accepts())
    return machine_of_parts(machine.letters(), table, accepts)


def parting(one, other):
    """The first word of which the two say unlike, or None."""
    if one.letters() != other.letters():
        raise OtherLetters()
    return first_parting(one, other, (0, 0))


def _is_table(thing, width):
    """Whether it is a table of 1 to 6 states with so many letters."""
    if not isinstance(thing, tuple) or not 1 <= len(thing) <= 6:
        return False
    return all([_is_states(row, len(thing)) and len(row) == width for row in thing])


def _is_accepts(thing, many):
    """Whether it is a strictly ascending tuple of states of so many."""
    return _is_states(thing, many) and is_ascending(thing)


def _is_states(thing, many):
    """Whether it is a tuple of states of so many."""
    return isinstance(thing, tuple) and all([is_between(state, 0, many - 1) for state in thing])
