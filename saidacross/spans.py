"""What can be made of lists of integers by sums of multiples."""

from math import gcd


class Span:
    """All sums of multiples, by fractions, of the lists that were taken in, all as long."""

    def __init__(self):
        # Of the index of the first number that is not nought a list that begins so.
        self._heads = {}

    def take(self, row):
        """Takes a list in. Returns a list of what is new in it, or None if nothing is.

        What is new is a multiple of the list with a sum of multiples of earlier ones.
        """
        rest = row
        for at in range(len(row)):
            if rest[at] != 0:
                if at not in self._heads:
                    self._heads[at] = shortened(rest)
                    return list(self._heads[at])
                rest = _without(rest, self._heads[at], at)
        return None


def shortened(row):
    """The integers without the divisors that they all have."""
    common = 0
    for number in row:
        common = gcd(common, number)
        if common == 1:
            return row
    return [number // common for number in row] if common > 1 else row


def _without(row, head, at):
    """A multiple of the row, less one of the head, that has nought at this index."""
    common = gcd(row[at], head[at])
    times = head[at] // common
    less = row[at] // common
    return shortened([times * one - less * other for one, other in zip(row, head)])
