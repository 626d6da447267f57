"""Least machines that are grown from a start, step by step, or from other machines."""

from saidacross.machines import machine_of_parts
from saidacross.shrinking import least_parts


def grown(letters, start, step, yes):
    """The least machine of these letters that goes by functions.

    `step(at, letter)` tells where a letter leads, `yes(at)` whether a word that
    ends there is said yes of. What stands for a place is free, but can be a key.
    """
    numbers = {start: 0}
    order = [start]
    table = []
    while len(table) < len(order):
        at = order[len(table)]
        row = []
        for letter in letters:
            to = step(at, letter)
            if to not in numbers:
                numbers[to] = len(order)
                order.append(to)
            row.append(numbers[to])
        table.append(tuple(row))
    accepts = [numbers[at] for at in order if yes(at)]
    rows, accepted = least_parts(tuple(table), accepts)
    return machine_of_parts(letters, rows, accepted)


def stepped(machine, state, letter):
    """The state to which the letter leads from this one."""
    return machine.table()[state][machine.letters().index(letter)]


def opposite(machine):
    """The least machine that says yes where this one says no."""
    accepts = [state for state in range(len(machine.table())) if state not in machine.accepts()]
    table, accepted = least_parts(machine.table(), accepts)
    return machine_of_parts(machine.letters(), table, accepted)


def paired(one, other, judge):
    """The least machine that says what `judge` tells of the two flags of two machines."""

    def step(at, letter):
        here, there = at
        return (stepped(one, here, letter), stepped(other, there, letter))

    def yes(at):
        here, there = at
        return judge(here in one.accepts(), there in other.accepts())

    return grown(one.letters(), (0, 0), step, yes)
