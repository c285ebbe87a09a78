"""The operations: each checks what it is given and answers its fields."""

from cardlocks.locks import cards_of, inverse_of, is_card, is_key, joint_of, key_modulus, locked, unlocked
from cardlocks.refusals import InvalidText, NoTable, WrongArgument
from cardlocks.tables import canonical_bytes
from cardlocks.tabletext import read_table

DONE = 0
TEXT_INVALID = 1
ARGUMENT_WRONG = -1
TABLE_MISSING = -20

MOST_BYTES = 800
GREATEST_BYTE = 255
MOST_KEYS = 20


class Session:

    def __init__(self):
        self.table = None


def needed_table(session):
    if session.table is None:
        raise NoTable()
    return session.table


def checked_text(numbers):
    if len(numbers) > MOST_BYTES:
        raise WrongArgument()
    for number in numbers:
        if number < 0 or number > GREATEST_BYTE:
            raise WrongArgument()
    return numbers


def checked_card(number, prime):
    if not is_card(number, prime):
        raise WrongArgument()
    return number


def checked_key(number, prime):
    if not is_key(number, prime):
        raise WrongArgument()
    return number


def checked_keys(numbers, prime):
    if len(numbers) > MOST_KEYS:
        raise WrongArgument()
    return [checked_key(number, prime) for number in numbers]


def load_table(session, call):
    table = read_table(checked_text(call.rows[0]))
    session.table = table
    return [table.prime, len(table.deck), len(table.players)]


def check_table(session, call):
    read_table(checked_text(call.rows[0]))
    return []


def print_table(session, call):
    return canonical_bytes(needed_table(session))


def status(session, call):
    table = needed_table(session)
    return [table.prime, key_modulus(table.prime), len(table.deck), len(table.players)]


def all_cards(session, call):
    cards = cards_of(needed_table(session).prime)
    return [len(cards)] + cards


def lock(session, call):
    prime = needed_table(session).prime
    card = checked_card(call.scalars[0], prime)
    key = checked_key(call.scalars[1], prime)
    return [locked(card, key, prime)]


def unlock(session, call):
    prime = needed_table(session).prime
    card = checked_card(call.scalars[0], prime)
    key = checked_key(call.scalars[1], prime)
    return [unlocked(card, key, prime)]


def inverse_key(session, call):
    prime = needed_table(session).prime
    return [inverse_of(checked_key(call.scalars[0], prime), prime)]


def joint_key(session, call):
    prime = needed_table(session).prime
    return [joint_of(checked_keys(call.rows[0], prime), prime)]


def check_lock(session, call):
    prime = needed_table(session).prime
    before = checked_card(call.scalars[0], prime)
    after = checked_card(call.scalars[1], prime)
    key = checked_key(call.scalars[2], prime)
    return [1 if locked(before, key, prime) == after else 0]


# the place of an operation is its number: what does it, how many numbers and how many rows it takes
OPERATIONS = (
    (load_table, 0, 1),
    (check_table, 0, 1),
    (print_table, 0, 0),
    (status, 0, 0),
    (all_cards, 0, 0),
    (lock, 2, 0),
    (unlock, 2, 0),
    (inverse_key, 1, 0),
    (joint_key, 0, 1),
    (check_lock, 3, 0),
)


def answer_next(session, reader):
    entry = OPERATIONS[reader.take_number()]
    operation = entry[0]
    call = reader.take_call(entry[1], entry[2])
    try:
        return [DONE] + operation(session, call)
    except NoTable:
        return [TABLE_MISSING]
    except WrongArgument:
        return [ARGUMENT_WRONG]
    except InvalidText as refusal:
        return [TEXT_INVALID, refusal.code, refusal.offset]
