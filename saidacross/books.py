"""Books: by them a talk of few bits is made."""

from saidacross.doings import Doings
from saidacross.forms import is_between, is_word
from saidacross.lots import core_numbers, full_numbers, full_words, group_numbers, lots_of


def book(machine):
    """The book with the least depths and the first words, or None if there is a block."""
    return pages_of(Doings(machine), machine.letters())


def book_fault(machine, thing):
    """The first fault of what may be a book of the machine, or None."""
    doings = Doings(machine)
    lots = lots_of(machine.letters())
    if not _has_form(lots, thing):
        return ("form",)
    for lot in lots:
        fault = _page_fault(doings, lot, thing[lot])
        if fault is not None:
            return fault
    return None


def pages_of(doings, letters):
    """What `book` tells of a machine with these doings and letters."""
    pages = {}
    for lot in lots_of(letters):
        page = _page(doings, lot)
        if page is None:
            return None
        pages[lot] = page
    return pages


def least_depth(doings, lot):
    """How many full words of the lot, at least, always make a deed of the core, or None."""
    inside = {number: True for number in core_numbers(doings, lot)}
    fulls = full_numbers(doings, lot)
    # Two full words are one, too: so by one more word some deeds fall away, or no deed
    # does, now and ever.
    deep = fulls
    depth = 1
    while not all([number in inside for number in deep]):
        deeper = sorted({doings.both[one][other] for one in deep for other in fulls})
        if deeper == deep:
            return None
        deep = deeper
        depth += 1
    return depth


def steady_core(doings, lot):
    """The numbers of the steady deeds of the core, ascending."""
    return [number for number in core_numbers(doings, lot) if doings.is_steady(number)]


def ends_fault(doings, lot):
    """The fault of the first two steady deeds of the core that make no steady one, or None."""
    ends = steady_core(doings, lot)
    for one in ends:
        for other in ends:
            if not doings.is_steady(doings.both[one][other]):
                return ("ends", lot, doings.words[one], doings.words[other])
    return None


def sums_fault(doings, lot, number):
    """The fault of the first two deeds of the group that may not change places, or None."""
    group = group_numbers(doings, lot, number)
    for one in group:
        for other in group:
            if doings.both[one][other] != doings.both[other][one]:
                return ("sums", lot, doings.words[one], doings.words[other])
    return None


def first_page_word(doings, lot):
    """The first full word of the lot whose deed is steady and in the core, with its number."""
    inside = steady_core(doings, lot)
    # There is always one: whatever is made, done beside a deed of the core, is in it.
    return [pair for pair in full_words(doings, lot) if pair[1] in inside][0]


def _page(doings, lot):
    """The tuple (depth, word) of the book for this lot, or None if there is none."""
    depth = least_depth(doings, lot)
    if depth is None or ends_fault(doings, lot) is not None:
        return None
    word, number = first_page_word(doings, lot)
    # The groups of a core are alike: no other word fits if this one does not.
    if sums_fault(doings, lot, number) is not None:
        return None
    return (depth, word)


def _page_fault(doings, lot, page):
    """The first fault of a tuple (depth, word) for this lot, or None."""
    depth, word = page
    number = doings.number(word)
    if number not in steady_core(doings, lot):
        return ("core", lot)
    deep = least_depth(doings, lot)
    if deep is None or depth < deep:
        return ("depth", lot)
    fault = ends_fault(doings, lot)
    if fault is not None:
        return fault
    return sums_fault(doings, lot, number)


def _has_form(lots, thing):
    """Whether it is a dict with exactly these lots as keys, and pages as values."""
    if not isinstance(thing, dict) or len(thing) != len(lots):
        return False
    return all([lot in thing and _is_page(lot, thing[lot]) for lot in lots])


def _is_page(lot, thing):
    """Whether it is a tuple of an integer from 1 to 100 and a full word of the lot."""
    if not isinstance(thing, tuple) or len(thing) != 2:
        return False
    return is_between(thing[0], 1, 100) and _is_full(lot, thing[1])


def _is_full(lot, thing):
    """Whether it is a word that has all letters of the lot and no others."""
    return is_word(lot, thing) and all([letter in thing for letter in lot])
