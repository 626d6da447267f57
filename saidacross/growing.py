"""Least machines that are grown from a start, step by step, or from other machines."""

from saidacross.errors import TooMany
from saidacross.machines import machine_of_parts
from saidacross.shrinking import least_parts


def explored(letters, start, step, most=None):
    """All places to which steps lead from a start, in their order, and the table of them.

    `step(at, letter)` tells where a letter leads. What stands for a place is free, but can be
    a key. The table has for each place the numbers of those to which the letters lead. Where
    `most` tells a number there are TooMany of more places.
    """
    numbers = {start: 0}
    order = [start]
    table = []
    while len(table) < len(order):
        at = order[len(table)]
        row = []
        for letter in letters:
            to = step(at, letter)
            if to not in numbers:
                numbers[to] = len(order)
                order.append(to)
            row.append(numbers[to])
        if most is not None and len(order) > most:
            raise TooMany(most)
        table.append(tuple(row))
    return order, tuple(table)


def grown(letters, start, step, yes):
    """The least machine of these letters that goes by functions; TooMany(200) states of it.

    `step` is as `explored` takes it, and `yes(at)` tells whether a word that ends there is
    said yes of.
    """
    order, table = explored(letters, start, step)
    accepts = [at for at in range(len(order)) if yes(order[at])]
    rows, accepted = least_parts(table, accepts, 0, 200)
    return machine_of_parts(letters, rows, accepted)


def stepped(machine, state, letter):
    """The state to which the letter leads from this one."""
    return machine.table()[state][machine.letters().index(letter)]


def shrunk(letters, table, accepts, start=0):
    """The least machine with these letters, states, accepted states and first state."""
    rows, accepted = least_parts(table, accepts, start)
    return machine_of_parts(letters, rows, accepted)


def opposite(machine):
    """The least machine that says yes where this one says no."""
    accepts = [state for state in range(len(machine.table())) if state not in machine.accepts()]
    return shrunk(machine.letters(), machine.table(), accepts)


def paired(one, other, judge):
    """The least machine that says what `judge` tells of the two flags of two machines."""

    def step(at, letter):
        here, there = at
        return (stepped(one, here, letter), stepped(other, there, letter))

    def yes(at):
        here, there = at
        return judge(here in one.accepts(), there in other.accepts())

    return grown(one.letters(), (0, 0), step, yes)
