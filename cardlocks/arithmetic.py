"""Whole numbers modulo a prime."""


def power(base, exponent, modulus):
    result = 1
    factor = base % modulus
    left = exponent
    while left > 0:
        if left % 2 == 1:
            result = result * factor % modulus
        factor = factor * factor % modulus
        left = left // 2
    return result


def is_prime(number):
    if number < 2:
        return False
    divisor = 2
    while divisor * divisor <= number:
        if number % divisor == 0:
            return False
        divisor += 1
    return True
