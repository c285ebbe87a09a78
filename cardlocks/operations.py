"""The operations: each checks what it is given and answers its fields."""

from cardlocks.arithmetic import power
from cardlocks.checks import (checked_announced, checked_card, checked_cards, checked_exponent, checked_key,
                              checked_keys, checked_lists, checked_number, checked_order, checked_orders,
                              checked_position, checked_revealed, checked_row, checked_shown, checked_text)
from cardlocks.games import deal_audit, dealt, opened, opening_audit
from cardlocks.locks import cards_of, inverse_of, is_square, joint_of, key_modulus, locked, unlocked
from cardlocks.refusals import InvalidText, NoTable, NotInDeck, WrongArgument
from cardlocks.rows import error_count, matching_order, remaining_count, shuffled
from cardlocks.tables import canonical_bytes
from cardlocks.tabletext import read_table

DONE = 0
TEXT_INVALID = 1
ARGUMENT_WRONG = -1
CARD_NOT_IN_DECK = -6
TABLE_MISSING = -20


class Session:

    def __init__(self):
        self.table = None


def needed_table(session):
    if session.table is None:
        raise NoTable()
    return session.table


def load_table(session, call):
    table = read_table(checked_text(call.rows[0]))
    session.table = table
    return [table.prime, len(table.deck), len(table.players)]


def check_table(session, call):
    read_table(checked_text(call.rows[0]))
    return []


def print_table(session, call):
    return canonical_bytes(needed_table(session))


def status(session, call):
    table = needed_table(session)
    return [table.prime, key_modulus(table.prime), len(table.deck), len(table.players)]


def all_cards(session, call):
    cards = cards_of(needed_table(session).prime)
    return [len(cards)] + cards


def lock(session, call):
    prime = needed_table(session).prime
    card = checked_card(call.scalars[0], prime)
    key = checked_key(call.scalars[1], prime)
    return [locked(card, key, prime)]


def unlock(session, call):
    prime = needed_table(session).prime
    card = checked_card(call.scalars[0], prime)
    key = checked_key(call.scalars[1], prime)
    return [unlocked(card, key, prime)]


def inverse_key(session, call):
    prime = needed_table(session).prime
    return [inverse_of(checked_key(call.scalars[0], prime), prime)]


def joint_key(session, call):
    prime = needed_table(session).prime
    return [joint_of(checked_keys(call.rows[0], prime), prime)]


def check_lock(session, call):
    prime = needed_table(session).prime
    before = checked_card(call.scalars[0], prime)
    after = checked_card(call.scalars[1], prime)
    key = checked_key(call.scalars[2], prime)
    return [1 if locked(before, key, prime) == after else 0]


def shuffle_row(session, call):
    prime = needed_table(session).prime
    key = checked_key(call.scalars[0], prime)
    row = checked_row(call.rows[0], prime)
    order = checked_order(call.rows[1], len(row))
    return shuffled(row, key, order, prime)


def check_shuffle(session, call):
    prime = needed_table(session).prime
    key = checked_key(call.scalars[0], prime)
    row = checked_row(call.rows[0], prime)
    cards = checked_cards(call.rows[1], len(row), prime)
    errors = error_count(row, key, cards, prime)
    if errors > 0:
        return [0, errors]
    return [1] + matching_order(row, key, cards, prime)


def check_symmetry(session, call):
    prime = needed_table(session).prime
    key = checked_key(call.scalars[0], prime)
    row = checked_row(call.rows[0], prime)
    if error_count(row, key, row, prime) > 0:
        return [0]
    return [1] + matching_order(row, key, row, prime)


def audit_deal(session, call):
    table = needed_table(session)
    revealed = checked_revealed(call.rows[0], table)
    lists = checked_lists(call.rows[1], table)
    return deal_audit(table, revealed, lists)


def remaining_orders(session, call):
    prime = needed_table(session).prime
    row = checked_row(call.rows[0], prime)
    cards = checked_cards(call.rows[1], len(row), prime)
    shown = checked_shown(call.rows[2], len(row), prime)
    found = [unlocked(cards[position], key, prime) for position, key in shown]
    if any([card not in row for card in found]):
        return [0]
    positions = [row.index(card) for card in found]
    return [remaining_count(len(row), positions)] + positions


def deal(session, call):
    table = needed_table(session)
    return dealt(table, checked_orders(call.rows[0], table))


def open_card(session, call):
    table = needed_table(session)
    position = checked_position(call.scalars[0], len(table.deck))
    cards = checked_cards(call.rows[0], len(table.deck), table.prime)
    card = opened(table, cards[position])
    if card not in table.deck:
        raise NotInDeck()
    return [table.deck.index(card)]


def audit_opening(session, call):
    table = needed_table(session)
    position = checked_position(call.scalars[0], len(table.deck))
    revealed = checked_revealed(call.rows[0], table)
    cards = checked_cards(call.rows[1], len(table.deck), table.prime)
    announced = checked_announced(call.rows[2], table)
    return opening_audit(table, cards[position], revealed, announced)


def raise_number(session, call):
    prime = needed_table(session).prime
    before = checked_number(call.scalars[0], prime)
    after = power(before, checked_exponent(call.scalars[1], prime), prime)
    squares = [1 if is_square(number, prime) else 0 for number in (before, after)]
    return [after] + squares


def clear_table(session, call):
    session.table = None
    return []


# the place of an operation is its number: what does it, how many numbers and how many rows it takes
OPERATIONS = (
    (load_table, 0, 1),
    (check_table, 0, 1),
    (print_table, 0, 0),
    (status, 0, 0),
    (all_cards, 0, 0),
    (lock, 2, 0),
    (unlock, 2, 0),
    (inverse_key, 1, 0),
    (joint_key, 0, 1),
    (check_lock, 3, 0),
    (shuffle_row, 1, 2),
    (check_shuffle, 1, 2),
    (check_symmetry, 1, 1),
    (audit_deal, 0, 2),
    (remaining_orders, 0, 3),
    (deal, 0, 1),
    (open_card, 1, 1),
    (audit_opening, 1, 3),
    (raise_number, 2, 0),
    (clear_table, 0, 0),
)


def answer_next(session, reader):
    entry = OPERATIONS[reader.take_number()]
    operation = entry[0]
    call = reader.take_call(entry[1], entry[2])
    try:
        return [DONE] + operation(session, call)
    except NoTable:
        return [TABLE_MISSING]
    except WrongArgument:
        return [ARGUMENT_WRONG]
    except NotInDeck:
        return [CARD_NOT_IN_DECK]
    except InvalidText as refusal:
        return [TEXT_INVALID, refusal.code, refusal.offset]
