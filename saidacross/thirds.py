"""Rows whose middle is B's: how many strings are unlike, and what the tables span."""

from saidacross.accounts import account
from saidacross.doings import Doings
from saidacross.halftables import HalfTable, check_lengths
from saidacross.ranks import rank_of
from saidacross.spans import Span


def thirds(machine, ahead, middle, behind):
    """How many pairs of A, and strings of B, are unlike, and the rank of the table of answers."""
    check_lengths((ahead, middle, behind))
    table = HalfTable(machine)
    doings = Doings(machine)
    # What counts of a string of B is its deed, which its first word has in the fewest places.
    within = [at for at, word in enumerate(doings.words) if len(word) <= middle]
    rows = _rows(table, [doings.moves[at] for at in within], ahead, behind)
    others = [tuple([row[at] for row in rows]) for at in range(len(within))]
    return (len(rows), len(set(others)), _rank(table, doings, within, ahead, behind))


def spread(machine):
    """How many deeds there are, the size of the account, and how many of its tables are needed."""
    size = len(account(machine)[0])
    doings = Doings(machine)
    # The table of a word tells all answers to rows with this word in the middle, and they tell
    # the table: so sums of multiples of tables and of their answers are the same ones.
    every = list(range(len(doings.words)))
    tables = _rank(HalfTable(machine), doings, every, 10 ** 30, 10 ** 30)
    return (len(doings.words), size, tables)


def _rows(table, moves, ahead, behind):
    """The rows of the table of answers to these deeds, each once."""
    rows = []
    for state in table.states(ahead):
        ends = [move[state] for move in moves]
        for column in table.columns_within(behind):
            rows.append(tuple([column[end] for end in ends]))
    return sorted(set(rows))


def _rank(table, doings, within, ahead, behind):
    """The rank of the table of the answers to the deeds with these numbers."""
    letters = table.fewest.letters()
    many = len(doings.words)
    # What A adds to the left, or to the right, of a deed makes another one of it.
    lefts = [doings.both[doings.number(letter)] for letter in letters]
    rights = [[doings.follow[at][letter] for at in range(many)] for letter in letters]
    start = [int(move[0] in table.fewest.accepts()) for move in doings.moves]
    span = Span()
    span.take(start)
    rows = _widened(span, [start], lefts, ahead)
    rows = _widened(span, rows, rights, behind)
    return rank_of([[row[at] for at in within] for row in rows])


def _widened(span, rows, turns, times):
    """Rows by which all are made that come of these by at most so many turns.

    A turn is a list that tells for each index from which one the number is taken. All rows
    are in the span: what comes of a row that was in it before is in it, too, and is left out.
    """
    found = list(rows)
    fresh = rows
    left = times
    while len(fresh) > 0 and left > 0:
        turned = [[row[at] for at in turn] for row in fresh for turn in turns]
        fresh = [row for row in turned if span.take(row) is not None]
        found.extend(fresh)
        left -= 1
    return found
