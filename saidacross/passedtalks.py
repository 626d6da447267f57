"""Talks by "passed": behind each stretch its hand tells the state."""

from saidacross.dealings import stretches
from saidacross.voices import width_for
from saidacross.walking import end_of


def passed_state(fewest, dealing, row, voices):
    """The state of the least machine to which the row leads, found aloud."""
    width = width_for(len(fewest.table()))
    state = 0
    begin = 0
    for hand, many in stretches(dealing):
        word = row[begin:begin + many].replace(".", "")
        end = end_of(fewest.letters(), fewest.table(), state, word)
        state = voices.say(hand, [end], width)[0]
        begin += many
    return state


def most_passed_bits(fewest, dealing):
    """How many bits are said at most."""
    return len(stretches(dealing)) * width_for(len(fewest.table()))
