"""Writes calls as the interface tells, and takes the answers apart again."""

import unittest

from cardlocks.audits import answers

LEAST = -2 ** 63
GREATEST = 2 ** 63 - 1

# every number from 11 to 983 that is 2q + 1 for a prime q, and is a prime itself
PRIMES = [11, 23, 47, 59, 83, 107, 167, 179, 227, 263, 347, 359, 383, 467, 479,
          503, 563, 587, 719, 839, 863, 887, 983]

SMALL = "prime 23; deck 2 3 4 6; player ann key 3; player bob key 10;"
SMALL_DECK = [2, 3, 4, 6]
SMALL_KEYS = [3, 10]
SMALL_CANONICAL = "prime 23;\ndeck 2 3 4 6;\nplayer ann key 3;\nplayer bob key 10;\n"

# the least and the most that a table can have
BARE = "prime 11; deck 4 3;"
BARE_DECK = [4, 3]
FULL = ("prime 47; deck 2 3 4 6 7 8 9 12 14 16; "
        "player a key 22; player b key 5; player c key 13; player d key 2;")
FULL_DECK = [2, 3, 4, 6, 7, 8, 9, 12, 14, 16]
FULL_KEYS = [22, 5, 13, 2]


def bytes_of(text):
    return list(text.encode("latin-1"))


def call(number, *arguments):
    numbers = [number]
    for argument in arguments:
        if isinstance(argument, str):
            argument = bytes_of(argument)
        if isinstance(argument, list):
            if len(argument) > (900 if number in (0, 1) else 60):
                raise AssertionError("a longer list than is ever handed in: " + repr(argument))
            numbers.append(len(argument))
            numbers.extend(argument)
        else:
            numbers.append(argument)
    return numbers


def load_table(text):
    return call(0, text)


def check_table(text):
    return call(1, text)


def print_table():
    return call(2)


def status():
    return call(3)


def all_cards():
    return call(4)


def lock(card, key):
    return call(5, card, key)


def unlock(card, key):
    return call(6, card, key)


def inverse_key(key):
    return call(7, key)


def joint_key(keys):
    return call(8, keys)


def check_lock(before, after, key):
    return call(9, before, after, key)


def shuffle_row(key, row, order):
    return call(10, key, row, order)


def check_shuffle(key, row, cards):
    return call(11, key, row, cards)


def check_symmetry(key, row):
    return call(12, key, row)


def audit_deal(revealed, lists):
    return call(13, revealed, lists)


def remaining_orders(row, cards, shown):
    return call(14, row, cards, shown)


def deal(orders):
    return call(15, orders)


def open_card(position, cards):
    return call(16, position, cards)


def audit_opening(position, revealed, cards, announced):
    return call(17, position, revealed, cards, announced)


def raise_number(number, exponent):
    return call(18, number, exponent)


def clear():
    return call(19)


def told(count, numbers):
    """The answers that stand in a list that was given back: exactly count of them, and nothing else."""
    if type(numbers) is not list or any(type(number) is not int for number in numbers):
        raise AssertionError("not a list of whole numbers: " + repr(numbers))
    result = []
    place = 0
    while place < len(numbers):
        length = numbers[place]
        answer = numbers[place + 1:place + 1 + length]
        if length < 1 or len(answer) != length:
            raise AssertionError("a wrong length at " + str(place) + ": " + repr(numbers))
        result.append(answer)
        place += 1 + length
    if len(result) != count:
        raise AssertionError(str(len(result)) + " answers to " + str(count) + " calls")
    return result


def ask(calls):
    """One list with all these calls; the list of their answers."""
    numbers = [number for one in calls for number in one]
    if not 1 <= len(calls) <= 120 or len(numbers) > 16000:
        raise AssertionError("a list of calls that is never handed in: " + repr(calls))
    return told(len(calls), answers(numbers))


def ask_many(first, calls):
    """The answers to however many calls that change nothing, each behind the call named first."""
    result = []
    for start in range(0, len(calls), 119):
        result.extend(ask([first] + calls[start:start + 119])[1:])
    return result


class CallCase(unittest.TestCase):

    def tells(self, text, pairs):
        """Each call with what it answers, where the table is that of the text."""
        calls = [one for one, expected in pairs]
        for pair, answer in zip(pairs, ask_many(load_table(text), calls)):
            self.assertEqual(answer, pair[1], (text, pair[0]))

    def refused(self, text, calls):
        self.assertNotEqual(calls, [])
        self.tells(text, [(one, [-1]) for one in calls])


def cards_of(prime):
    """The squares modulo the prime but 1: found by squaring, not by raising to the power q."""
    return sorted({number * number % prime for number in range(1, prime)} - {1})


def keys_of(prime):
    return list(range(1, (prime - 1) // 2))


def not_cards(prime):
    cards = cards_of(prime)
    others = [number for number in range(-3, prime + 30) if number not in cards]
    # numbers that a card is congruent to, too
    return others + [cards[0] + prime, cards[0] - prime, LEAST, LEAST + 1, GREATEST - 1, GREATEST]


def not_keys(prime):
    q = (prime - 1) // 2
    return [-q, 1 - q, -2, -1, 0, q, q + 1, 2 * q, prime, LEAST, LEAST + 1, GREATEST - 1, GREATEST]


def not_rows(prime):
    """Lists that are no row: too many cards, none, a card twice, and numbers that are no cards."""
    cards = cards_of(prime)
    rows = [[], [cards[0]] * 2, cards[:3] + [cards[1]], [cards[0], cards[1], cards[0]], [cards[0]] * 10,
            [cards[0]] * 11, [GREATEST] * 60, cards[:1] * 60]
    if len(cards) > 10:
        rows.extend([cards[:11], cards[1:12], (cards * 6)[:60]])
    for number in not_cards(prime):
        rows.extend([[number], [number, cards[0]], [cards[0], number], cards[:2] + [number] + cards[2:4]])
    return rows


def not_orders(count):
    """Lists that are no order of so many positions."""
    right = list(range(count))
    orders = [[], right[:-1], right[1:], right + [count], right + [0], right + right, [place + 1 for place in right],
              [place - 1 for place in right], list(range(60)), [0] * 60, [LEAST] * 60]
    for place in right:
        for number in (-1, count, LEAST, GREATEST, place - count, right[place - 1]):
            if number != place:
                orders.append(right[:place] + [number] + right[place + 1:])
    # an empty list is the order of no positions
    return [order for order in orders if sorted(order) != right]


def not_card_lists(right, prime):
    """Lists that are not so many cards as the right one."""
    card = cards_of(prime)[0]
    lists = [right + [card], right + right + [card], [card] * 60, [GREATEST] * 60]
    if right:
        lists.extend([[], right[:-1], right[1:]])
    for place in range(len(right)):
        for number in not_cards(prime):
            lists.append(right[:place] + [number] + right[place + 1:])
    return [wrong for wrong in lists if len(wrong) <= 60]


def not_key_lists(right, prime):
    """Lists that are not so many keys as the right one."""
    lists = [right + [1], [1] * 20, [1] * 21, [GREATEST] * 60]
    if right:
        lists.extend([[], right[:-1], right[1:]])
    for place in range(len(right)):
        for number in not_keys(prime):
            lists.append(right[:place] + [number] + right[place + 1:])
    return lists


def shuffled(row, key, order, prime):
    return [pow(row[place], key, prime) for place in order]


def opened(card, keys, prime):
    """The card that, locked with all the keys, is this one: found by trying all cards."""
    for key in keys:
        card = [other for other in cards_of(prime) if pow(other, key, prime) == card][0]
    return card


def table_text(prime, deck, keys):
    players = "".join([" player " + name + " key " + str(key) + ";" for name, key in zip("abcd", keys)])
    return "prime " + str(prime) + "; deck " + " ".join([str(card) for card in deck]) + ";" + players


def smallest_table(prime):
    return table_text(prime, cards_of(prime)[:2], [])
