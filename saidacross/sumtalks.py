"""Talks by "sums": each hand tells what its own letters do."""

from saidacross.dealings import sight
from saidacross.voices import width_for


def sum_deed(doings, dealing, row, voices):
    """The number of the deed of the row, found aloud."""
    width = width_for(len(doings.words))
    total = 0
    # The letters may change places: so may what the hands have done.
    for hand in sorted(set(dealing)):
        own = doings.number(sight(dealing, row, hand).replace(".", ""))
        told = voices.say(hand, [own], width)
        total = doings.both[total][told[0]]
    return total


def most_sum_bits(doings, dealing):
    """How many bits are said at most."""
    return len(set(dealing)) * width_for(len(doings.words))
