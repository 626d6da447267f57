"""Talks by "sums": each hand tells what its own letters do."""

from saidacross.dealings import sight
from saidacross.voices import width_for


def sum_numbers(doings, dealing, row, voices):
    """A dict from the hands to the numbers of the deeds of their letters, found aloud."""
    return {hand: own_number(doings, dealing, row, hand, voices)
            for hand in sorted(set(dealing))}


def own_number(doings, dealing, row, hand, voices):
    """The number of the deed of the letters of one hand, which says it."""
    own = doings.number(sight(dealing, row, hand).replace(".", ""))
    return voices.say(hand, [own], width_for(len(doings.words)))[0]


def sum_state(doings, numbers):
    """The state to which a row leads whose hands do this."""
    # The letters may change places: so may what the hands have done.
    return doings.moves[doings.run(list(numbers.values()))][0]


def most_sum_bits(doings, dealing):
    """How many bits are said at most."""
    return len(set(dealing)) * width_for(len(doings.words))
