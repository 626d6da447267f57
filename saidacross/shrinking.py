"""The fewest states that say the same."""

from saidacross.errors import TooMany
from saidacross.walking import reached


def least_parts(table, accepts, start=0, most=None):
    """The table and the accepted states of the least machine that says the same.

    `start` is the state from which words lead on. Where `most` tells a number there are
    TooMany of more states.
    """
    order = reached(table, start)
    accepted = {state: True for state in accepts}
    classes = _classes(table, accepted, order, most)
    # The classes are numbered as they come in `order`: state by state, letter by letter.
    rows = []
    yes = []
    for state in order:
        if classes[state] == len(rows):
            if state in accepted:
                yes.append(len(rows))
            rows.append(tuple([classes[to] for to in table[state]]))
    return tuple(rows), tuple(yes)


def _classes(table, accepted, order, most):
    """A dict from the states of `order` to the numbers of the classes that say alike."""
    classes = _numbered(order, {state: state in accepted for state in order})
    many = 0
    while many < _how_many(classes):
        many = _how_many(classes)
        # The classes never get fewer: there is no need to go on.
        if most is not None and many > most:
            raise TooMany(most)
        marks = {}
        for state in order:
            marks[state] = (classes[state], tuple([classes[to] for to in table[state]]))
        classes = _numbered(order, marks)
    return classes


def _numbered(order, marks):
    """A dict from the states to the numbers of their marks, numbered as they come first."""
    numbers = {}
    classes = {}
    for state in order:
        mark = marks[state]
        if mark not in numbers:
            numbers[mark] = len(numbers)
        classes[state] = numbers[mark]
    return classes


def _how_many(classes):
    """How many classes there are."""
    return 1 + max(list(classes.values()))
