"""Letters that belong to hands: where a fixed number of bits is enough for each machine."""

from saidacross.changes import strict_pairs
from saidacross.dealings import is_dealing, is_row, sight
from saidacross.doings import Doings
from saidacross.errors import NoDealing, NoOwners, NoRow, NotOwned
from saidacross.forms import is_letter
from saidacross.lots import made_numbers
from saidacross.machines import least
from saidacross.voices import Voices, width_for


def owned(machine, owners):
    """Whether each two letters that belong to unlike hands may change places."""
    if not _is_owners(machine.letters(), owners):
        raise NoOwners()
    return _is_owned(machine, owners)


def own_talk(machine, owners, dealing, row):
    """The list of the messages about a row in which each hand has its own letters, the answer."""
    if not _is_owners(machine.letters(), owners):
        raise NoOwners()
    if not is_dealing(dealing):
        raise NoDealing()
    if not _is_own_row(machine.letters(), owners, dealing, row):
        raise NoRow()
    doings = Doings(machine)
    if not _is_owned(machine, owners):
        raise NotOwned()
    voices = Voices()
    total = 0
    for hand in sorted(set(dealing)):
        # Each hand tells what its own letters do: what they can do is known to all.
        lot = [letter for letter in machine.letters() if owners[letter] == hand]
        numbers = made_numbers(doings, lot)
        own = doings.number(sight(dealing, row, hand).replace(".", ""))
        told = voices.say(hand, [numbers.index(own)], width_for(len(numbers)))
        total = doings.both[total][numbers[told[0]]]
    return (voices.messages, doings.moves[total][0] in least(machine).accepts())


def _is_owned(machine, owners):
    """Whether all letters that may not change places belong to the same hands."""
    return all([owners[one] == owners[other] for one, other in strict_pairs(machine)])


def _is_owners(letters, thing):
    """Whether it is a dict from exactly these letters to hands."""
    if not isinstance(thing, dict) or len(thing) != len(letters):
        return False
    return all([letter in thing and is_letter("ABCD", thing[letter]) for letter in letters])


def _is_own_row(letters, owners, dealing, thing):
    """Whether it is a row of the dealing with each letter at a place of its own hand."""
    if not is_row(letters, dealing, thing):
        return False
    return all([sign == "." or owners[sign] == hand for sign, hand in zip(thing, dealing)])
