"""Fractions as tuples (n, d), d at least 1."""

from math import gcd, lcm


def lowest(over, under):
    """Return the fraction in lowest terms."""
    shared = gcd(over, under)
    return (over // shared, under // shared)


def is_less(first, second):
    """Tell whether the first fraction is less than the second one."""
    return first[0] * second[1] < second[0] * first[1]


def plus(first, second):
    """Return the sum of two fractions."""
    return lowest(first[0] * second[1] + second[0] * first[1], first[1] * second[1])


def shared_divisor(fractions):
    """Return the least number that all of these fractions can be written over."""
    shared = 1
    for _, under in fractions:
        shared = lcm(shared, under)
    return shared
