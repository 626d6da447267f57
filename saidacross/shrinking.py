"""The fewest states that say the same."""

from saidacross.walking import reached


def least_parts(table, accepts):
    """The table and the accepted states of the least machine that says the same."""
    order = reached(table)
    accepted = {state: True for state in accepts}
    classes = _classes(table, accepted, order)
    # The classes are numbered as they come in `order`: state by state, letter by letter.
    rows = []
    yes = []
    for state in order:
        if classes[state] == len(rows):
            if state in accepted:
                yes.append(len(rows))
            rows.append(tuple([classes[to] for to in table[state]]))
    return tuple(rows), tuple(yes)


def _classes(table, accepted, order):
    """A dict from the states of `order` to the numbers of the classes that say alike."""
    classes = _numbered(order, {state: state in accepted for state in order})
    many = 0
    while many < _how_many(classes):
        many = _how_many(classes)
        marks = {}
        for state in order:
            marks[state] = (classes[state], tuple([classes[to] for to in table[state]]))
        classes = _numbered(order, marks)
    return classes


def _numbered(order, marks):
    """A dict from the states to the numbers of their marks, numbered as they come first."""
    numbers = {}
    classes = {}
    for state in order:
        mark = marks[state]
        if mark not in numbers:
            numbers[mark] = len(numbers)
        classes[state] = numbers[mark]
    return classes


def _how_many(classes):
    """How many classes there are."""
    return 1 + max(list(classes.values()))
