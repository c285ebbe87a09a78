"""The arguments of the calls: each check gives back what is right, and refuses what is wrong."""

from cardlocks.arithmetic import are_coprime
from cardlocks.locks import is_card, is_key
from cardlocks.refusals import WrongArgument
from cardlocks.rows import all_different, is_order, is_row, parts_of

MOST_BYTES = 800
GREATEST_BYTE = 255
MOST_KEYS = 20


def need(condition):
    if not condition:
        raise WrongArgument()


def checked_text(numbers):
    need(len(numbers) <= MOST_BYTES)
    for number in numbers:
        need(number >= 0 and number <= GREATEST_BYTE)
    return numbers


def checked_card(number, prime):
    need(is_card(number, prime))
    return number


def checked_key(number, prime):
    need(is_key(number, prime))
    return number


def checked_keys(numbers, prime):
    need(len(numbers) <= MOST_KEYS)
    return [checked_key(number, prime) for number in numbers]


def checked_row(numbers, prime):
    need(is_row(numbers, prime))
    return numbers


def checked_cards(numbers, count, prime):
    need(len(numbers) == count)
    return [checked_card(number, prime) for number in numbers]


def checked_order(numbers, count):
    need(is_order(numbers, count))
    return numbers


def checked_position(number, count):
    need(number >= 0 and number <= count - 1)
    return number


def checked_shown(numbers, count, prime):
    need(len(numbers) % 2 == 0)
    pairs = parts_of(numbers, 2)
    for position, key in pairs:
        checked_position(position, count)
        checked_key(key, prime)
    need(all_different([position for position, key in pairs]))
    return pairs


def checked_revealed(numbers, table):
    need(len(numbers) == len(table.players))
    return [checked_key(number, table.prime) for number in numbers]


def checked_announced(numbers, table):
    return checked_cards(numbers, len(table.players), table.prime)


def checked_lists(numbers, table):
    count = len(table.deck)
    return parts_of(checked_cards(numbers, len(table.players) * count, table.prime), count)


def checked_orders(numbers, table):
    count = len(table.deck)
    need(len(numbers) == len(table.players) * count)
    return [checked_order(part, count) for part in parts_of(numbers, count)]


def checked_number(number, prime):
    need(number >= 1 and number <= prime - 1)
    return number


def checked_exponent(number, prime):
    need(number >= 1 and number <= prime - 1)
    need(are_coprime(number, prime - 1))
    return number
