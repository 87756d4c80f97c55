"""Common divisors, divisors and fractions of integers."""

from math import gcd, isqrt

from hushgrain.errors import ZeroBottom


def gcd_of(numbers):
    """Return the greatest common divisor, 0 if there are no integers or all are 0."""
    common = 0
    for number in numbers:
        common = gcd(common, number)
    return common


def is_multiple(number, divisor):
    """Tell whether the number is a multiple of the divisor; only 0 is one of 0."""
    return number == 0 if divisor == 0 else number % divisor == 0


def divisors(number):
    """Return the divisors of an integer from 1 on, as an ascending tuple."""
    small = [k for k in range(1, isqrt(number) + 1) if number % k == 0]
    large = [number // k for k in reversed(small) if k * k != number]
    return tuple(small + large)


def prime_powers(number, largest):
    """Return the list of (p, q) for the primes p up to `largest` that divide a number from 1 on.

    q is the greatest power of p that divides it. What is left of the number, if it is not 1,
    comes last in the place of both.
    """
    found = []
    for factor in range(2, largest + 1):
        power = 1
        while number % factor == 0:
            number //= factor
            power *= factor
        if power > 1:
            found.append((factor, power))
    if number > 1:
        found.append((number, number))
    return found


def fraction(top, bottom=1):
    """Return top / bottom in lowest terms, as a tuple (top, bottom) with bottom from 1 on."""
    if bottom == 0:
        raise ZeroBottom()
    common = gcd(top, bottom)
    if bottom < 0:
        common = -common
    return (top // common, bottom // common)


def add_fractions(one, other):
    """Return the sum of two fractions."""
    return fraction(one[0] * other[1] + other[0] * one[1], one[1] * other[1])


def multiply_fractions(one, other):
    """Return the product of two fractions."""
    return fraction(one[0] * other[0], one[1] * other[1])


def bezout(one, other):
    """Return (g, s, t): the greatest common divisor g, from 0 on, with g = s * one + t * other."""
    common, behind = one, other
    left, left_behind = 1, 0
    while behind:
        quotient, rest = divmod(common, behind)
        common, behind = behind, rest
        left, left_behind = left_behind, left - quotient * left_behind
    if common < 0:
        common, left = -common, -left
    right = 0
    if other:
        right = (common - left * one) // other
    return common, left, right
