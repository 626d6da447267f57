"""Talks by "passed": behind each stretch its hand tells the state."""

from saidacross.dealings import stretches
from saidacross.voices import width_for
from saidacross.walking import end_of


def passed_states(fewest, dealing, row, voices):
    """The list of the states of the least machine behind the stretches, found aloud."""
    unknown = [None] * len(stretches(dealing))
    return passed_again(fewest, dealing, row, unknown, 0, voices)


def passed_again(fewest, dealing, row, states, place, voices):
    """The same where the states were these ones before the sign at this place changed."""
    width = width_for(len(fewest.table()))
    found = list(states)
    begin = 0
    for at, (hand, many) in enumerate(stretches(dealing)):
        end = begin + many
        if end > place:
            word = row[begin:end].replace(".", "")
            ahead = found[at - 1] if at > 0 else 0
            state = end_of(fewest.letters(), fewest.table(), ahead, word)
            found[at] = voices.say(hand, [state], width)[0]
            # From here on all is as it was.
            if found[at] == states[at]:
                return found
        begin = end
    return found


def most_passed_bits(fewest, dealing):
    """How many bits are said at most."""
    return len(stretches(dealing)) * width_for(len(fewest.table()))
