"""Accounts worked out in integers."""

from math import gcd, lcm

from saidacross.ratios import ratio


class Weights:
    """The parts of an account, each in integers with one divisor for all of them.

    `first` and `last` are tuples (numbers, divisor); `steps` is a dict from the letters to
    tuples (rows, divisor), each row a list of tuples (index, number) of what is not nought.
    """

    def __init__(self, thing):
        first, steps, last = thing
        self.first = _whole(first)
        self.steps = {letter: _whole_table(steps[letter]) for letter in steps}
        self.last = _whole(last)

    def moved(self, told, letter):
        """What the table of a letter makes of a tuple (numbers, divisor)."""
        numbers, divisor = told
        rows, more = self.steps[letter]
        found = [0] * len(numbers)
        for number, row in zip(numbers, rows):
            if number != 0:
                for at, factor in row:
                    found[at] += number * factor
        return _shortened(found, divisor * more)

    def ending(self, told):
        """The tuple (number, divisor) of such a tuple times the last part of the account."""
        numbers, divisor = told
        factors, more = self.last
        total = sum([number * factor for number, factor in zip(numbers, factors)])
        return ratio(total, divisor * more)


def _whole(parts):
    """The tuple (numbers, divisor) of a tuple of fractions."""
    divisor = _divisor_of(parts)
    return ([number * (divisor // own) for number, own in parts], divisor)


def _whole_table(table):
    """The tuple (rows, divisor) of a table of fractions."""
    divisor = 1
    for parts in table:
        divisor = lcm(divisor, _divisor_of(parts))
    rows = []
    for parts in table:
        rows.append([(at, part[0] * (divisor // part[1]))
                     for at, part in enumerate(parts) if part[0] != 0])
    return (rows, divisor)


def _divisor_of(parts):
    """The least divisor that will do for all of these fractions."""
    divisor = 1
    for part in parts:
        divisor = lcm(divisor, part[1])
    return divisor


def _shortened(numbers, divisor):
    """The tuple of the numbers and the divisor without the divisors that they all have."""
    common = divisor
    for number in numbers:
        common = gcd(common, number)
    return ([number // common for number in numbers], divisor // common)
