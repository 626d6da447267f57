"""Ways through a table of states. A table is a tuple of tuples, as a machine has it."""


def end_of(letters, table, state, word):
    """The state to which the word leads from this one."""
    for letter in word:
        state = table[state][letters.index(letter)]
    return state


def ends_of(letters, table, word):
    """The tuple of the states to which the word leads from each state, in their order."""
    return tuple([end_of(letters, table, state, word) for state in range(len(table))])


def then(one, other):
    """The tuple of states of doing `one`, then `other`."""
    return tuple([other[state] for state in one])


def reached(table, start=0):
    """The states to which words lead from this one, in the order in which they come first."""
    order = [start]
    known = {start: True}
    at = 0
    while at < len(order):
        row = table[order[at]]
        for state in row:
            if state not in known:
                known[state] = True
                order.append(state)
        at += 1
    return order


def first_words(letters, table):
    """A dict from the states to which words lead from state 0 to the first word for each."""
    words = {0: ""}
    order = reached(table)
    for state in order:
        for letter, to in zip(letters, table[state]):
            if to not in words:
                words[to] = words[state] + letter
    return words


def first_parting(one, other, start):
    """The first word of which two machines with the same letters say unlike, or None.

    `start` is the pair of states from which they begin.
    """
    letters = one.letters()
    # Only the way back is kept of each pair: whole words would take too much room.
    back = {start: None}
    queue = [start]
    at = 0
    while at < len(queue):
        here, there = queue[at]
        if (here in one.accepts()) != (there in other.accepts()):
            return _word_back(back, (here, there))
        steps = list(zip(letters, one.table()[here], other.table()[there]))
        for letter, to, too in steps:
            if (to, too) not in back:
                back[(to, too)] = (here, there, letter)
                queue.append((to, too))
        at += 1
    return None


def _word_back(back, pair):
    """The word that led to this pair of states."""
    signs = []
    step = back[pair]
    while step is not None:
        here, there, letter = step
        signs.append(letter)
        step = back[(here, there)]
    return "".join(reversed(signs))
