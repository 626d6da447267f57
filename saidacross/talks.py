"""Talks of hands, step by step, and how many bits they take."""

from saidacross.books import pages_of
from saidacross.booktalks import BookTalk, Lore, most_book_bits
from saidacross.dealings import is_dealing, is_row, stretches
from saidacross.doings import Doings
from saidacross.errors import NoDealing, NoNumber, NoRow, NoWay, TalkOver
from saidacross.forms import is_between
from saidacross.kinds import fixed
from saidacross.machines import least
from saidacross.passedtalks import most_passed_bits, passed_states
from saidacross.sumtalks import most_sum_bits, sum_numbers, sum_state
from saidacross.voices import Voices


class Talk:
    """A talk of the hands about a row, by a way."""

    def __init__(self, machine, dealing, row, way):
        if not is_dealing(dealing):
            raise NoDealing()
        if not is_row(machine.letters(), dealing, row):
            raise NoRow()
        # All that is said depends on nothing to come: so it can be found ahead.
        self._parts = (machine, dealing, row, way)
        self._messages, self._end = _talked(machine, dealing, row, way)
        self._said = 0

    def step(self):
        """Says the next message and returns it."""
        if self._said == len(self._messages):
            raise TalkOver()
        self._said += 1
        return self._messages[self._said - 1]

    def heard(self):
        """The messages so far."""
        return self._messages[:self._said]

    def bits(self):
        """The number of the bits so far."""
        return sum([len(bits) for _, bits in self.heard()])

    def answer(self):
        """The answer, or None as long as there are messages to come."""
        return self._end if self._said == len(self._messages) else None

    def run(self):
        """Says all messages that are to come and returns the answer."""
        self._said = len(self._messages)
        return self._end

    def back(self, many):
        """Takes back the last messages."""
        if not is_between(many, 0, self._said):
            raise NoNumber()
        self._said -= many

    def copy(self):
        """A talk that stands where this one stands."""
        machine, dealing, row, way = self._parts
        twin = Talk(machine, dealing, row, way)
        twin._said = self._said
        return twin


def most_bits(machine, dealing, way):
    """How many bits are said at most of the rows of the dealing, by this way."""
    if not is_dealing(dealing):
        raise NoDealing()
    doings = Doings(machine)
    pages = pages_of(doings, machine.letters())
    if way not in _ways(machine, pages):
        raise NoWay()
    return _most(machine, doings, pages, dealing, way)


def ways(machine):
    """The ways for the machine."""
    return _ways(machine, pages_of(Doings(machine), machine.letters()))


def cheapest(machine, dealing):
    """The first way with the fewest bits that are said at most."""
    if not is_dealing(dealing):
        raise NoDealing()
    doings = Doings(machine)
    pages = pages_of(doings, machine.letters())
    every = _ways(machine, pages)
    costs = [_most(machine, doings, pages, dealing, way) for way in every]
    return every[costs.index(min(costs))]


def _ways(machine, pages):
    """The ways for a machine with these pages of a book, or with None."""
    found = []
    if fixed(machine):
        found.append("sums")
    if pages is not None:
        found.append("book")
    found.append("passed")
    return found


def _most(machine, doings, pages, dealing, way):
    """How many bits are said at most by a way that there is."""
    if way == "sums":
        return most_sum_bits(doings, dealing)
    if way == "passed":
        return most_passed_bits(least(machine), dealing)
    lore = Lore(doings, pages)
    hands = len(set(dealing))
    return most_book_bits(lore, machine.letters(), hands, len(stretches(dealing)))


def _talked(machine, dealing, row, way):
    """The list of all messages about a row, and the answer."""
    doings = Doings(machine)
    pages = pages_of(doings, machine.letters())
    if way not in _ways(machine, pages):
        raise NoWay()
    voices = Voices()
    fewest = least(machine)
    if way == "passed":
        state = passed_states(fewest, dealing, row, voices)[-1]
    elif way == "sums":
        state = sum_state(doings, sum_numbers(doings, dealing, row, voices))
    else:
        talk = BookTalk(Lore(doings, pages), dealing, row, voices)
        state = doings.moves[talk.part_deed(0, len(row), machine.letters())][0]
    return voices.messages, state in fewest.accepts()
