"""Letters that may not change places."""

from saidacross.machines import least
from saidacross.walking import ends_of, then


def strict_pairs(machine):
    """The list of the pairs of letters, each ascending, that may not change places."""
    letters = machine.letters()
    table = least(machine).table()
    steps = {letter: ends_of(letters, table, letter) for letter in letters}
    return [(one, other) for one in letters for other in letters if one < other
            and then(steps[one], steps[other]) != then(steps[other], steps[one])]
