"""Gaps: why there is no book."""

from saidacross.books import ends_fault, first_page_word, sums_fault
from saidacross.doings import Doings
from saidacross.lots import core_numbers, full_words, lots_of


def gap(machine):
    """Why there is no book, told of the first lot that has no page; None if there is a book."""
    doings = Doings(machine)
    for lot in lots_of(machine.letters()):
        fault = _lot_fault(doings, lot)
        if fault is not None:
            return fault
    return None


def _lot_fault(doings, lot):
    """Why no page is right for this lot, or None if one is."""
    fault = _depth_fault(doings, lot)
    if fault is not None:
        return fault
    fault = ends_fault(doings, lot)
    if fault is not None:
        return fault
    return sums_fault(doings, lot, first_page_word(doings, lot)[1])


def _depth_fault(doings, lot):
    """The fault of the first full word whose deed is steady and not in the core, or None."""
    # Such a word stays out of the core however often it is done: so no depth will do.
    inside = core_numbers(doings, lot)
    for word, number in full_words(doings, lot):
        if doings.is_steady(number) and number not in inside:
            return ("depth", lot, word)
    return None
