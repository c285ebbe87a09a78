"""The cards and keys of a prime, and what locking does with them."""

from cardlocks.arithmetic import is_prime, power

LEAST_PRIME = 11
GREATEST_PRIME = 983


def key_modulus(prime):
    return (prime - 1) // 2


def is_table_prime(number):
    if number < LEAST_PRIME or number > GREATEST_PRIME:
        return False
    return is_prime(number) and is_prime(key_modulus(number))


def is_square(number, prime):
    return power(number, key_modulus(prime), prime) == 1


def is_card(number, prime):
    return number >= 2 and number <= prime - 1 and is_square(number, prime)


def is_key(number, prime):
    return number >= 1 and number <= key_modulus(prime) - 1


def cards_of(prime):
    return [number for number in range(2, prime) if is_card(number, prime)]


def locked(card, key, prime):
    return power(card, key, prime)


def inverse_of(key, prime):
    # the modulus of the keys is itself a prime, so Fermat's theorem gives the inverse
    modulus = key_modulus(prime)
    return power(key, modulus - 2, modulus)


def unlocked(card, key, prime):
    return locked(card, inverse_of(key, prime), prime)


def joint_of(keys, prime):
    joint = 1
    for key in keys:
        joint = joint * key % key_modulus(prime)
    return joint
