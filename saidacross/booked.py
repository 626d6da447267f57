"""What the functions that need a book ask for at first."""

from saidacross.books import pages_of
from saidacross.doings import Doings
from saidacross.errors import NoBook, NoLot
from saidacross.forms import is_lot


def booked(machine, lot):
    """The doings and the book of a machine that has one, for a lot of it."""
    if not is_lot(machine.letters(), lot):
        raise NoLot()
    doings = Doings(machine)
    pages = pages_of(doings, machine.letters())
    if pages is None:
        raise NoBook()
    return doings, pages
