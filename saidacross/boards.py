"""Boards: hands that go on talking while signs of their row change."""

from saidacross.dealings import is_dealing, is_row
from saidacross.doings import Doings
from saidacross.errors import NoDealing, NoPlace, NoRow, NoSign, NoWay
from saidacross.forms import is_between, is_letter
from saidacross.kinds import fixed
from saidacross.machines import least
from saidacross.passedtalks import passed_again, passed_states
from saidacross.sumtalks import own_number, sum_numbers, sum_state
from saidacross.voices import Voices


class Board:
    """A row of which the hands have talked by a way, and of whose changes they go on talking."""

    def __init__(self, machine, dealing, row, way):
        if not is_dealing(dealing):
            raise NoDealing()
        if not is_row(machine.letters(), dealing, row):
            raise NoRow()
        self._doings = Doings(machine)
        if way not in ("sums", "passed") or (way == "sums" and not fixed(machine)):
            raise NoWay()
        self._fewest = least(machine)
        self._dealing = dealing
        self._way = way
        self._row = row
        self._bits = 0
        # What all know: by "sums" a dict from the hands to the numbers of their deeds, by
        # "passed" the list of the states behind the stretches.
        if way == "sums":
            self._known = sum_numbers(self._doings, dealing, row, Voices())
        else:
            self._known = passed_states(self._fewest, dealing, row, Voices())
        # For each change that is not taken back the row, the bits and what was known before it.
        self._past = []

    def change(self, place, sign):
        """Puts the sign at this place, and returns the messages that are said of it."""
        if not is_between(place, 0, len(self._row) - 1):
            raise NoPlace()
        if not is_letter(self._fewest.letters() + ".", sign):
            raise NoSign()
        self._past.append((self._row, self._bits, self._known))
        self._row = self._row[:place] + sign + self._row[place + 1:]
        voices = Voices()
        self._known = self._known_again(place, voices)
        self._bits += sum([len(bits) for _, bits in voices.messages])
        return voices.messages

    def row(self):
        """The row as it is now."""
        return self._row

    def answer(self):
        """What the machine says of the row as it is now."""
        if self._way == "sums":
            state = sum_state(self._doings, self._known)
        else:
            state = self._known[-1]
        return state in self._fewest.accepts()

    def bits(self):
        """The number of the bits that were said by all changes that are not taken back."""
        return self._bits

    def back(self):
        """Takes back the last change that is not taken back; whether there was one."""
        if len(self._past) == 0:
            return False
        self._row, self._bits, self._known = self._past.pop()
        return True

    def _known_again(self, place, voices):
        """What all know once the sign at this place has changed, found aloud."""
        if self._way == "passed":
            return passed_again(self._fewest, self._dealing, self._row, self._known, place, voices)
        # The hand of the place may have done anything, even if it says what it said before.
        hand = self._dealing[place]
        known = dict(self._known)
        known[hand] = own_number(self._doings, self._dealing, self._row, hand, voices)
        return known
