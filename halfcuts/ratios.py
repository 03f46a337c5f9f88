"""Shares and other ratios: tuples (numerator, denominator) in lowest terms."""

from math import gcd


def ratio(top, bottom):
    """Return top / bottom, of which the bottom is at least 1."""
    common = gcd(top, bottom)
    return top // common, bottom // common


def plus(first, second):
    """Return the sum of two ratios."""
    return ratio(first[0] * second[1] + second[0] * first[1], first[1] * second[1])
