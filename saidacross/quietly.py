"""Which letters must be left out so that less need be said."""

from saidacross.errors import NoKind
from saidacross.kinds import is_at_most
from saidacross.lots import lots_of
from saidacross.together import without


def quiet(machine, kind):
    """All strings of letters without which, and not without fewer, this kind is enough."""
    if kind not in ("fixed", "digits"):
        raise NoKind()
    found = []
    # With no letter left out at first it is seen whether the machine itself has too many deeds.
    for letters in [""] + lots_of(machine.letters())[:-1]:
        if not _has_part(letters, found) and is_at_most(without(machine, letters), kind):
            found.append(letters)
    return found


def _has_part(letters, strings):
    """Whether one of the strings has no other letters than these."""
    return any([all([letter in letters for letter in part]) for part in strings])
