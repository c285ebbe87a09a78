"""raise: powers of all numbers, and whether they are squares."""

import math
import unittest

from helper import BARE, GREATEST, LEAST, PRIMES, SMALL, CallCase, ask, load_table, raise_number, smallest_table


def is_square(number, prime):
    return 1 if number in [root * root % prime for root in range(1, prime)] else 0


def exponents_of(prime):
    return [exponent for exponent in range(1, prime) if math.gcd(exponent, prime - 1) == 1]


class Raise(CallCase):

    def test_written_out(self):
        self.tells(SMALL, [
            (raise_number(2, 3), [0, 8, 1, 1]), (raise_number(5, 3), [0, 10, 0, 0]),
            (raise_number(1, 1), [0, 1, 1, 1]), (raise_number(22, 1), [0, 22, 0, 0]),
            (raise_number(1, 21), [0, 1, 1, 1]), (raise_number(22, 21), [0, 22, 0, 0]),
            (raise_number(2, 21), [0, 12, 1, 1]), (raise_number(5, 21), [0, 14, 0, 0]),
            (raise_number(18, 1), [0, 18, 1, 1]), (raise_number(7, 13), [0, 20, 0, 0])])

    def test_every_number_and_exponent_of_small_primes(self):
        for prime, text in ((11, BARE), (23, SMALL), (47, smallest_table(47))):
            pairs = []
            for number in range(1, prime):
                for exponent in exponents_of(prime):
                    power = pow(number, exponent, prime)
                    pairs.append((raise_number(number, exponent),
                                  [0, power, is_square(number, prime), is_square(power, prime)]))
            self.tells(text, pairs)

    def test_every_prime(self):
        for prime in PRIMES:
            pairs = []
            for number in (1, 2, 3, prime // 2, prime - 2, prime - 1):
                for exponent in (1, 3, prime - 4, prime - 2):
                    power = pow(number, exponent, prime)
                    pairs.append((raise_number(number, exponent),
                                  [0, power, is_square(number, prime), is_square(power, prime)]))
            self.tells(smallest_table(prime), pairs)

    def test_every_exponent_of_every_prime(self):
        for prime in PRIMES:
            right = exponents_of(prime)
            self.assertEqual(len(right), (prime - 1) // 2 - 1)
            self.tells(smallest_table(prime),
                       [(raise_number(1, exponent), [0, 1, 1, 1] if exponent in right else [-1])
                        for exponent in range(-3, prime + 4)])

    def test_every_number_of_a_small_and_of_the_largest_prime(self):
        for prime in (11, 983):
            squares = [root * root % prime for root in range(1, prime)]
            pairs = []
            for number in range(-3, prime + 4):
                expected = [-1]
                if 1 <= number <= prime - 1:
                    expected = [0, number, 1 if number in squares else 0, 1 if number in squares else 0]
                pairs.append((raise_number(number, 1), expected))
            self.tells(smallest_table(prime), pairs)

    def test_exponents_that_are_not_coprime(self):
        for prime in PRIMES:
            q = (prime - 1) // 2
            self.refused(smallest_table(prime), [raise_number(3, exponent) for exponent in (2, 4, q - 1, q, 2 * q)])

    def test_wrong_numbers(self):
        for prime in (11, 23, 983):
            wrong = [LEAST, LEAST + 1, -prime, 1 - prime, -1, 0, prime, prime + 1, 2 * prime, GREATEST - 1, GREATEST]
            self.refused(smallest_table(prime), [raise_number(number, 1) for number in wrong])
            self.refused(smallest_table(prime), [raise_number(1, exponent) for exponent in wrong])
            self.refused(smallest_table(prime), [raise_number(number, 0) for number in wrong])

    def test_exponents_that_are_congruent_to_a_right_one(self):
        self.refused(SMALL, [raise_number(2, exponent) for exponent in (3 + 22, 3 - 22, 23, 25, 27, -1, -3)])

    def test_the_cards_of_the_deck_do_not_count(self):
        for text in (SMALL, "prime 23; deck 18 16; player a key 1;"):
            self.assertEqual(ask([load_table(text), raise_number(5, 7)])[1], [0, 17, 0, 0])


if __name__ == "__main__":
    unittest.main()
