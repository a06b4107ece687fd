"""Fractions: pairs of two integers, the second one at least 1, without a common divisor greater than 1."""

from math import gcd

from shutroads.maps import is_integer


def is_fraction(value):
    """Return whether a value is a fraction."""
    if not isinstance(value, tuple) or len(value) != 2 or not all([is_integer(part) for part in value]):
        return False
    return value[1] >= 1 and gcd(value[0], value[1]) == 1


def quotient(above, below):
    """Return the fraction of two integers, the second one at least 1."""
    common = gcd(above, below)
    return above // common, below // common


def is_at_most(left, right):
    """Return whether one quotient of two integers is at most another one."""
    return left[0] * right[1] <= right[0] * left[1]


def add_whole(some, whole):
    """Return the sum of a quotient of two integers and of an integer."""
    return some[0] + whole * some[1], some[1]
