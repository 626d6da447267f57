"""Talks of strangers, and rows that break those that say too few bits."""

from saidacross.answertables import written
from saidacross.dealings import sight
from saidacross.errors import NoBit, NoNumber, NoTurn
from saidacross.forms import is_between
from saidacross.machines import says
from saidacross.writings import mark_block, mark_rank, mark_writings, order_writings


def break_talk(machine, most, turn, tell):
    """A dealing and a row for which the stranger is wrong or silent behind `most` bits."""
    if not is_between(most, 0, 5):
        raise NoNumber()
    # So many bits part the rows of at most 2 ** most writings of each hand rightly.
    writings = order_writings(machine, (1 << most) + 1)
    return _broken(machine, writings, most, turn, tell)


def break_long(machine, most, turn, tell):
    """The same by the writings of as few marks as it takes."""
    if not is_between(most, 0, 5):
        raise NoNumber()
    thing = mark_block(machine)
    marks = 1
    while mark_rank(machine, thing, marks) <= (1 << most):
        marks += 1
    return _broken(machine, mark_writings(machine, thing, marks), most, turn, tell)


def _broken(machine, writings, most, turn, tell):
    """The first row of these writings for which the stranger is wrong or silent."""
    dealing, ones, others = writings
    # There is one: the rank of their table is greater than the number of all lists of bits.
    for one in ones:
        for other in others:
            row = written(dealing, one, other)
            if _heard(dealing, row, most, turn, tell) != says(machine, row.replace(".", "")):
                return (dealing, row)


def _heard(dealing, row, most, turn, tell):
    """The answer that the stranger gives, or None if there is none behind `most` bits."""
    heard = ""
    told = turn(dealing, heard)
    while not isinstance(told, bool):
        if told not in ("A", "B"):
            raise NoTurn()
        if len(heard) == most:
            return None
        bit = tell(dealing, told, sight(dealing, row, told), heard)
        if bit not in ("0", "1"):
            raise NoBit()
        heard += bit
        told = turn(dealing, heard)
    return told
