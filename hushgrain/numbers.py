"""Common divisors, divisors and fractions of integers."""

from math import gcd, isqrt

from hushgrain.errors import ZeroBottom


def gcd_of(numbers):
    """Return the greatest common divisor, 0 if there are no integers or all are 0."""
    common = 0
    for number in numbers:
        common = gcd(common, number)
    return common


def divisors(number):
    """Return the divisors of an integer from 1 on, as an ascending tuple."""
    small = [k for k in range(1, isqrt(number) + 1) if number % k == 0]
    large = [number // k for k in reversed(small) if k * k != number]
    return tuple(small + large)


def fraction(top, bottom=1):
    """Return top / bottom in lowest terms, as a tuple (top, bottom) with bottom from 1 on."""
    if bottom == 0:
        raise ZeroBottom()
    common = gcd(top, bottom)
    if bottom < 0:
        common = -common
    return (top // common, bottom // common)


def add_fractions(one, other):
    """Return the sum of two fractions."""
    return fraction(one[0] * other[1] + other[0] * one[1], one[1] * other[1])


def multiply_fractions(one, other):
    """Return the product of two fractions."""
    return fraction(one[0] * other[0], one[1] * other[1])
