"""What must stand around two words so that a machine says unlike of them."""

from saidacross.deeds import deed
from saidacross.machines import least
from saidacross.walking import first_parting, first_words


def around_unlike(machine, one, other):
    """Words ahead and behind by which the machine says unlike of two words of unlike deeds."""
    fewest = least(machine)
    heres = deed(machine, one)
    theres = deed(machine, other)
    state = [at for at in range(len(heres)) if heres[at] != theres[at]][0]
    ahead = first_words(fewest.letters(), fewest.table())[state]
    return ahead, first_parting(fewest, fewest, (heres[state], theres[state]))
