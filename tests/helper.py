"""Writes calls as the interface tells, and takes the answers apart again."""

from cardlocks.audits import answers

LEAST = -2 ** 63
GREATEST = 2 ** 63 - 1

# every number from 11 to 983 that is 2q + 1 for a prime q, and is a prime itself
PRIMES = [11, 23, 47, 59, 83, 107, 167, 179, 227, 263, 347, 359, 383, 467, 479,
          503, 563, 587, 719, 839, 863, 887, 983]

SMALL = "prime 23; deck 2 3 4 6; player ann key 3; player bob key 10;"
SMALL_CANONICAL = "prime 23;\ndeck 2 3 4 6;\nplayer ann key 3;\nplayer bob key 10;\n"


def bytes_of(text):
    return list(text.encode("latin-1"))


def call(number, *arguments):
    numbers = [number]
    for argument in arguments:
        if isinstance(argument, str):
            argument = bytes_of(argument)
        if isinstance(argument, list):
            numbers.append(len(argument))
            numbers.extend(argument)
        else:
            numbers.append(argument)
    return numbers


def load_table(text):
    return call(0, text)


def check_table(text):
    return call(1, text)


def print_table():
    return call(2)


def status():
    return call(3)


def all_cards():
    return call(4)


def lock(card, key):
    return call(5, card, key)


def unlock(card, key):
    return call(6, card, key)


def inverse_key(key):
    return call(7, key)


def joint_key(keys):
    return call(8, keys)


def check_lock(before, after, key):
    return call(9, before, after, key)


def told(count, numbers):
    """The answers that stand in a list that was given back: exactly count of them, and nothing else."""
    if type(numbers) is not list or any(type(number) is not int for number in numbers):
        raise AssertionError("not a list of whole numbers: " + repr(numbers))
    result = []
    place = 0
    while place < len(numbers):
        length = numbers[place]
        answer = numbers[place + 1:place + 1 + length]
        if length < 1 or len(answer) != length:
            raise AssertionError("a wrong length at " + str(place) + ": " + repr(numbers))
        result.append(answer)
        place += 1 + length
    if len(result) != count:
        raise AssertionError(str(len(result)) + " answers to " + str(count) + " calls")
    return result


def ask(calls):
    """One list with all these calls; the list of their answers."""
    return told(len(calls), answers([number for one in calls for number in one]))


def ask_many(first, calls):
    """The answers to however many calls that change nothing, each behind the call named first."""
    result = []
    for start in range(0, len(calls), 119):
        result.extend(ask([first] + calls[start:start + 119])[1:])
    return result


def cards_of(prime):
    """The squares modulo the prime but 1: found by squaring, not by raising to the power q."""
    return sorted({number * number % prime for number in range(1, prime)} - {1})


def smallest_table(prime):
    cards = cards_of(prime)
    return "prime " + str(prime) + "; deck " + str(cards[0]) + " " + str(cards[1]) + ";"
