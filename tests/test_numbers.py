import unittest
from fractions import Fraction
from itertools import product

from hushgrain.errors import HushError, ZeroBottom
from hushgrain.numbers import (
    add_fractions, bezout, divisors, fraction, gcd_of, is_multiple, multiply_fractions, prime_powers,
)

SMALL = [fraction(top, bottom) for top in range(-4, 5) for bottom in range(1, 7)]


def pair(value):
    return (value.numerator, value.denominator)


class GcdTest(unittest.TestCase):
    def test_example(self):
        self.assertEqual(gcd_of((12, -18, 0)), 6)

    def test_none_and_zeros(self):
        for numbers in ((), [], (0,), (0, 0, 0), [0, 0]):
            self.assertEqual(gcd_of(numbers), 0)

    def test_single_ones(self):
        for number in (1, -1, 7, -7, 10 ** 40, -10 ** 40):
            self.assertEqual(gcd_of((number,)), abs(number))

    def test_zero_beside_others(self):
        self.assertEqual(gcd_of((0, -5)), 5)
        self.assertEqual(gcd_of((-5, 0, 0)), 5)

    def test_by_definition(self):
        for numbers in product(range(-6, 7), repeat=3):
            if any(numbers):
                wanted = max(k for k in range(1, 7) if all(n % k == 0 for n in numbers))
                self.assertEqual(gcd_of(numbers), wanted)
                self.assertEqual(gcd_of(list(numbers)), wanted)

    def test_large(self):
        factor = 10 ** 34 + 7
        self.assertEqual(gcd_of((6 * factor, -10 * factor, 15 * factor)), factor)
        self.assertEqual(gcd_of((2 ** 400, -(2 ** 300) * 3, 2 ** 350)), 2 ** 300)
        self.assertEqual(gcd_of((factor, factor + 1)), 1)

    def test_keyword_and_argument_stays(self):
        numbers = [8, -12]
        self.assertEqual(gcd_of(numbers=numbers), 4)
        self.assertEqual(numbers, [8, -12])


class DivisorsTest(unittest.TestCase):
    def test_example(self):
        self.assertEqual(divisors(12), (1, 2, 3, 4, 6, 12))

    def test_one_primes_and_squares(self):
        self.assertEqual(divisors(1), (1,))
        self.assertEqual(divisors(2), (1, 2))
        self.assertEqual(divisors(999983), (1, 999983))
        self.assertEqual(divisors(4), (1, 2, 4))
        self.assertEqual(divisors(49), (1, 7, 49))
        self.assertEqual(divisors(36), (1, 2, 3, 4, 6, 9, 12, 18, 36))
        self.assertEqual(divisors(997 * 997), (1, 997, 997 * 997))

    def test_products_of_primes(self):
        self.assertEqual(divisors(30), (1, 2, 3, 5, 6, 10, 15, 30))
        self.assertEqual(divisors(991 * 997), (1, 991, 997, 991 * 997))
        self.assertEqual(len(divisors(5040)), 60)

    def test_by_definition(self):
        for number in list(range(1, 300)) + [5040, 510510, 720720, 1000000]:
            wanted = tuple(k for k in range(1, number + 1) if number % k == 0)
            self.assertEqual(divisors(number), wanted)

    def test_the_largest(self):
        powers = sorted(2 ** i * 5 ** j for i in range(7) for j in range(7))
        self.assertEqual(divisors(1000000), tuple(powers))

    def test_keyword(self):
        self.assertEqual(divisors(number=6), (1, 2, 3, 6))


class FractionTest(unittest.TestCase):
    def test_examples(self):
        self.assertEqual(fraction(6, -4), (-3, 2))

    def test_edges(self):
        for bottom in (1, -1, 5, -5, 10 ** 30):
            self.assertEqual(fraction(0, bottom), (0, 1))
        self.assertEqual(fraction(7), (7, 1))
        self.assertEqual(fraction(0), (0, 1))
        self.assertEqual(fraction(-7), (-7, 1))
        self.assertEqual(fraction(-6, -4), (3, 2))
        self.assertEqual(fraction(6, -3), (-2, 1))

    def test_by_definition(self):
        for top in range(-30, 31):
            for bottom in list(range(-12, 0)) + list(range(1, 13)):
                self.assertEqual(fraction(top, bottom), pair(Fraction(top, bottom)))

    def test_large(self):
        factor = 10 ** 120 + 1
        self.assertEqual(fraction(-3 * factor, 6 * factor), (-1, 2))
        self.assertEqual(fraction(10 ** 40 + 1, -(10 ** 40)), (-(10 ** 40) - 1, 10 ** 40))

    def test_zero_bottom(self):
        for top in (0, 1, -1, 10 ** 40):
            with self.assertRaises(ZeroBottom) as caught:
                fraction(top, 0)
            self.assertIsInstance(caught.exception, HushError)
            self.assertEqual(vars(caught.exception), {})
        with self.assertRaises(ZeroBottom):
            fraction(bottom=0, top=1)

    def test_keywords(self):
        self.assertEqual(fraction(top=3, bottom=6), (1, 2))
        self.assertEqual(fraction(bottom=-6, top=3), (-1, 2))
        self.assertEqual(fraction(top=3), (3, 1))


class ArithmeticTest(unittest.TestCase):
    def test_examples(self):
        self.assertEqual(add_fractions((1, 2), (1, 3)), (5, 6))
        self.assertEqual(multiply_fractions((2, 3), (3, 4)), (1, 2))

    def test_zero_and_negative(self):
        self.assertEqual(add_fractions((0, 1), (0, 1)), (0, 1))
        self.assertEqual(add_fractions((-1, 2), (1, 2)), (0, 1))
        self.assertEqual(add_fractions((-1, 6), (-1, 3)), (-1, 2))
        self.assertEqual(multiply_fractions((0, 1), (-3, 7)), (0, 1))
        self.assertEqual(multiply_fractions((-2, 3), (-3, 2)), (1, 1))
        self.assertEqual(multiply_fractions((-2, 3), (3, 1)), (-2, 1))

    def test_by_definition(self):
        for one, other in product(SMALL, repeat=2):
            left, right = Fraction(*one), Fraction(*other)
            self.assertEqual(add_fractions(one, other), pair(left + right))
            self.assertEqual(multiply_fractions(one, other), pair(left * right))

    def test_large(self):
        big = 10 ** 60
        self.assertEqual(add_fractions((1, big), (-1, big + 1)), (1, big * (big + 1)))
        self.assertEqual(multiply_fractions((big, 3), (3, big)), (1, 1))

    def test_lists_keywords_and_arguments_stay(self):
        one, other = [-1, 2], [2, 3]
        for result in (add_fractions(one, other), add_fractions(other=other, one=one)):
            self.assertEqual(result, (1, 6))
        for result in (multiply_fractions(one, other), multiply_fractions(one=one, other=other)):
            self.assertEqual(result, (-1, 3))
        self.assertEqual((one, other), ([-1, 2], [2, 3]))

    def test_the_same_fraction_twice(self):
        one = [1, 2]
        self.assertEqual(add_fractions(one, one), (1, 1))
        self.assertEqual(multiply_fractions(one, one), (1, 4))


class HelpersTest(unittest.TestCase):
    def test_is_multiple(self):
        for number in range(-12, 13):
            self.assertIs(is_multiple(number, 0), number == 0)
            for divisor in range(1, 8):
                wanted = any(divisor * factor == number for factor in range(-12, 13))
                self.assertIs(is_multiple(number, divisor), wanted)
                self.assertIs(is_multiple(number, -divisor), wanted)

    def test_prime_powers(self):
        self.assertEqual(prime_powers(1, 1000), [])
        self.assertEqual(prime_powers(12, 1000), [(2, 4), (3, 3)])
        self.assertEqual(prime_powers(997 ** 3 * 25 * 2, 1000), [(2, 2), (5, 25), (997, 997 ** 3)])
        # What the primes up to the largest one leave over stays in one piece.
        self.assertEqual(prime_powers(4 * 1009 * 1013, 1000), [(2, 4), (1009 * 1013, 1009 * 1013)])
        self.assertEqual(prime_powers(30, 3), [(2, 2), (3, 3), (5, 5)])
        for number in range(1, 500):
            whole = 1
            for prime, power in prime_powers(number, 500):
                self.assertEqual([k for k in range(2, prime + 1) if prime % k == 0], [prime])
                self.assertEqual((power % prime, number % power, number // power % prime != 0), (0, 0, True))
                whole *= power
            self.assertEqual(whole, number)

    def test_bezout(self):
        large = [10 ** 299 + 7, -(6 ** 380), 2 ** 900]
        for one, other in product(list(range(-12, 13)) + large, repeat=2):
            common, left, right = bezout(one, other)
            self.assertEqual(common, gcd_of((one, other)))
            self.assertEqual(left * one + right * other, common)


if __name__ == "__main__":
    unittest.main()
