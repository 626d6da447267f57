"""Ranks of tables of integers, and what in them is a sum of multiples of something else."""

from saidacross.ratios import ratio


def rank_of(table):
    """The rank of a list of lists of as many integers, over the fractions."""
    return len(_stairs(table))


def multiples(table):
    """Of which multiples of the columns that are kept each column is the sum.

    A column is kept if it is no sum of multiples of those ahead of it. The list has None for
    a column that is kept, and for another one a list of fractions, for the kept ones ahead of
    it, in their order.
    """
    stairs = _stairs(table)
    leads = [column for column, _ in stairs]
    found = []
    for column in range(len(table[0])):
        if column in leads:
            found.append(None)
        else:
            found.append(_shares([step for step in stairs if step[0] < column], column))
    return found


def _shares(stairs, column):
    """Of which multiples of the columns that lead these stairs the column is the sum."""
    if len(stairs) == 0:
        return []
    # By this divisor of all, a minor of the table, the numbers are minors, too: so they are
    # integers, and each division comes out even.
    divisor = stairs[-1][1][0]
    numbers = []
    behind = []
    for lead, row in reversed(stairs):
        known = sum([row[other - lead] * number for other, number in zip(behind, numbers)])
        numbers.append((divisor * row[column - lead] - known) // row[0])
        behind.append(lead)
    return [ratio(number, divisor) for number in reversed(numbers)]


def _stairs(table):
    """The tuples (column, row) of an elimination, each row from its own column on.

    Its own column is the first one in which a row is not nought; the next rows have their
    own columns behind it.
    """
    rows = table
    last = 1
    found = []
    for column in range(len(table[0])):
        first = _first_leader(rows)
        if first is None:
            rows = [row[1:] for row in rows]
        else:
            head = rows[first]
            rows = [_reduced(row, head, last) for row in rows[:first] + rows[first + 1:]]
            last = head[0]
            found.append((column, head))
    return found


def _first_leader(rows):
    """The index of the first row that does not begin with nought, or None."""
    for at, row in enumerate(rows):
        if row[0] != 0:
            return at
    return None


def _reduced(row, head, last):
    """The row without its first number, which a multiple of the head has made nought."""
    # The numbers are minors of the table, so that the leader of the step before divides them,
    # and they stay as short as minors are.
    pairs = list(zip(row[1:], head[1:]))
    return [(head[0] * one - row[0] * other) // last for one, other in pairs]
