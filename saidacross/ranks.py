"""Ranks of tables of integers."""


def rank_of(table):
    """The rank of a list of lists of as many integers, over the fractions."""
    rows = table
    last = 1
    many = 0
    for _ in range(len(table[0])):
        first = _first_leader(rows)
        if first is None:
            rows = [row[1:] for row in rows]
        else:
            head = rows[first]
            rows = [_reduced(row, head, last) for row in rows[:first] + rows[first + 1:]]
            last = head[0]
            many += 1
    return many


def _first_leader(rows):
    """The index of the first row that does not begin with nought, or None."""
    for at, row in enumerate(rows):
        if row[0] != 0:
            return at
    return None


def _reduced(row, head, last):
    """The row without its first number, which a multiple of the head has made nought."""
    # The numbers are minors of the table, so that the leader of the step before divides them,
    # and they stay as short as minors are.
    pairs = list(zip(row[1:], head[1:]))
    return [(head[0] * one - row[0] * other) // last for one, other in pairs]
