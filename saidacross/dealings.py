"""Dealings: whose the places of a row are, and what each hand sees."""

from saidacross.errors import NoDealing, NoHand, NoRow, NoRows
from saidacross.forms import ALPHABET, is_word


def seen(dealing, row, hand):
    """What the hand sees of the row."""
    if not is_dealing(dealing):
        raise NoDealing()
    if not is_row(ALPHABET, dealing, row):
        raise NoRow()
    if hand not in hands_of(dealing):
        raise NoHand()
    return sight(dealing, row, hand)


def crossed(dealing, rows):
    """The row in which each hand has what it has in its own one of the rows."""
    if not is_dealing(dealing):
        raise NoDealing()
    hands = hands_of(dealing)
    if not _is_rows(dealing, rows, len(hands)):
        raise NoRows()
    return "".join([rows[hands.index(hand)][at] for at, hand in enumerate(dealing)])


def stretches(dealing):
    """The list of tuples (hand, many): the places as stretches of one hand."""
    if not is_dealing(dealing):
        raise NoDealing()
    begins = [at for at in range(len(dealing)) if dealing[at] != dealing[at - 1:at]]
    ends = begins[1:] + [len(dealing)]
    return [(dealing[begin], end - begin) for begin, end in zip(begins, ends)]


def is_dealing(thing):
    """Whether it is a string of one or more hands."""
    return is_word("ABCD", thing) and len(thing) > 0


def is_row(letters, dealing, thing):
    """Whether it is a row of the dealing with these letters."""
    return is_word(letters + ".", thing) and len(thing) == len(dealing)


def hands_of(dealing):
    """The list of the hands of the dealing, those that have no place among them."""
    last = max(list(dealing) + ["B"])
    return [hand for hand in "ABCD" if hand <= last]


def sight(dealing, row, hand):
    """The signs of the row at the places of the hand."""
    return "".join([sign for sign, holder in zip(row, dealing) if holder == hand])


def _is_rows(dealing, thing, many):
    """Whether it is a list of so many rows of the dealing."""
    if not isinstance(thing, list) or len(thing) != many:
        return False
    return all([is_row(ALPHABET, dealing, row) for row in thing])
