"""Fractions: tuples (p, q) of integers without a common divisor above 1, q from 1 on."""

from math import gcd

from saidacross.forms import is_integer

NOUGHT = (0, 1)
ONE = (1, 1)


def ratio(number, divisor):
    """The fraction of two integers, the divisor not nought."""
    common = gcd(number, divisor)
    if divisor < 0:
        common = -common
    return (number // common, divisor // common)


def is_ratio(thing):
    """Whether it is a fraction."""
    if not isinstance(thing, tuple) or len(thing) != 2:
        return False
    number, divisor = thing
    if not is_integer(number) or not is_integer(divisor):
        return False
    return divisor >= 1 and gcd(number, divisor) == 1


def is_ratios(thing, many):
    """Whether it is a tuple of so many fractions."""
    if not isinstance(thing, tuple) or len(thing) != many:
        return False
    return all([is_ratio(part) for part in thing])
