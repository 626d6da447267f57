"""The machines of sayings."""

from saidacross.growing import grown, opposite, paired, stepped


def machine_of_saying(letters, saying):
    """The least machine of what is known to be a saying of these letters.

    The machine of each saying in it is made, too: so each one that has TooMany(200) states
    is found.
    """
    head = saying[0]
    if head == "not":
        return opposite(machine_of_saying(letters, saying[1]))
    if head in ("and", "or", "cut", "cutlast"):
        one = machine_of_saying(letters, saying[-2])
        other = machine_of_saying(letters, saying[-1])
        join = JOINS[head]
        return join(saying, one, other)
    make = MAKES[head]
    return make(letters, saying)


def _first(letters, saying):
    # 0: there is no letter yet; 1: it is the right one; 2: it is another one.
    def step(at, letter):
        if at > 0:
            return at
        return 1 if letter == saying[1] else 2

    return grown(letters, 0, step, lambda at: at == 1)


def _last(letters, saying):
    def step(_, letter):
        return 1 if letter == saying[1] else 0

    return grown(letters, 0, step, lambda at: at == 1)


def _count(letters, saying):
    _, counted, modulus, rest = saying

    def step(at, letter):
        return (at + 1) % modulus if letter == counted else at

    return grown(letters, 0, step, lambda at: at == rest)


def _least(letters, saying):
    _, counted, bound = saying

    def step(at, letter):
        return at + 1 if letter == counted and at < bound else at

    return grown(letters, 0, step, lambda at: at == bound)


def _within(letters, saying):
    word = saying[1]

    def step(at, letter):
        return at + 1 if at < len(word) and letter == word[at] else at

    return grown(letters, 0, step, lambda at: at == len(word))


def _row(letters, saying):
    word = saying[1]

    def step(at, letter):
        if at == len(word):
            return at
        # As much of the word as stands at the end of what was read.
        tail = word[:at] + letter
        while not word.startswith(tail):
            tail = tail[1:]
        return len(tail)

    return grown(letters, 0, step, lambda at: at == len(word))


def _only(letters, saying):
    def step(at, letter):
        return at if letter in saying[1] else 1

    return grown(letters, 0, step, lambda at: at == 0)


def _and(_, one, other):
    return paired(one, other, lambda here, there: here and there)


def _or(_, one, other):
    return paired(one, other, lambda here, there: here or there)


def _cut(saying, one, other):
    # (0, s): no cut yet, s of `one`; (1, t): behind the cut, t of `other`; (2, 0): never.
    def step(at, letter):
        part, state = at
        if part == 2:
            return at
        if part == 1:
            return (1, stepped(other, state, letter))
        if letter != saying[1]:
            return (0, stepped(one, state, letter))
        return (1, 0) if state in one.accepts() else (2, 0)

    return grown(one.letters(), (0, 0), step, lambda at: at[0] == 1 and at[1] in other.accepts())


def _cutlast(saying, one, other):
    # (s, t): s of `one` for all that was read, t of `other` for what stands behind the
    # last cut; t is -1 if there is no cut or if `one` says no of what is ahead of it.
    def step(at, letter):
        ahead, behind = at
        to = stepped(one, ahead, letter)
        if letter == saying[1]:
            return (to, 0 if ahead in one.accepts() else -1)
        return (to, stepped(other, behind, letter) if behind >= 0 else -1)

    return grown(one.letters(), (0, -1), step, lambda at: at[1] in other.accepts())


MAKES = {
    "first": _first,
    "last": _last,
    "count": _count,
    "least": _least,
    "in": _within,
    "row": _row,
    "only": _only,
}
JOINS = {
    "and": _and,
    "or": _or,
    "cut": _cut,
    "cutlast": _cutlast,
}
