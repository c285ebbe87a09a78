"""Rows of different cards, what shuffling does with them, and how many orders are left."""

from cardlocks.arithmetic import factorial
from cardlocks.locks import is_card, locked

MOST_CARDS = 10


def all_different(numbers):
    return len(set(numbers)) == len(numbers)


def is_row(numbers, prime):
    if len(numbers) < 1 or len(numbers) > MOST_CARDS:
        return False
    return all_different(numbers) and all([is_card(number, prime) for number in numbers])


def is_order(numbers, count):
    return sorted(numbers) == list(range(count))


def parts_of(numbers, length):
    return [numbers[start:start + length] for start in range(0, len(numbers), length)]


def locked_row(row, key, prime):
    return [locked(card, key, prime) for card in row]


def shuffled(row, key, order, prime):
    cards = locked_row(row, key, prime)
    return [cards[place] for place in order]


def error_count(row, key, cards, prime):
    # the locked cards are all different, so no two of them need the same card of the list
    return len([card for card in locked_row(row, key, prime) if card not in cards])


def matching_order(row, key, cards, prime):
    expected = locked_row(row, key, prime)
    return [expected.index(card) for card in cards]


def remaining_count(card_count, positions):
    if not all_different(positions):
        return 0
    return factorial(card_count - len(positions))
