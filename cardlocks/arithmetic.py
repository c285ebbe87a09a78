"""Powers modulo a number, primes, coprime numbers and factorials."""


def power(base, exponent, modulus):
    result = 1
    factor = base % modulus
    left = exponent
    while left > 0:
        if left % 2 == 1:
            result = result * factor % modulus
        factor = factor * factor % modulus
        left = left // 2
    return result


def is_prime(number):
    if number < 2:
        return False
    divisor = 2
    while divisor * divisor <= number:
        if number % divisor == 0:
            return False
        divisor += 1
    return True


def are_coprime(one, other):
    greater = one
    rest = other
    while rest > 0:
        remainder = greater % rest
        greater = rest
        rest = remainder
    return greater == 1


def factorial(number):
    product = 1
    for factor in range(2, number + 1):
        product = product * factor
    return product
