"""What is done with the deck of a table: the deal, openings, and the audits of both."""

from cardlocks.locks import locked, unlocked
from cardlocks.rows import error_count, matching_order, shuffled
from cardlocks.tables import keys_of


def dealt(table, orders):
    row = table.deck
    for key, order in zip(keys_of(table), orders):
        row = shuffled(row, key, order, table.prime)
    return row


def opened(table, card):
    for key in keys_of(table):
        card = unlocked(card, key, table.prime)
    return card


# an audit gives its whole result as the calls answer it, since what follows differs with the first number
def deal_audit(table, revealed, lists):
    orders = []
    before = table.deck
    for player, key in enumerate(revealed):
        errors = error_count(before, key, lists[player], table.prime)
        if errors > 0:
            return [0, player, errors]
        orders.extend(matching_order(before, key, lists[player], table.prime))
        before = lists[player]
    return [1] + orders


def opening_audit(table, card, revealed, announced):
    before = card
    for player, key in enumerate(revealed):
        if locked(announced[player], key, table.prime) != before:
            return [0, player]
        before = announced[player]
    if before not in table.deck:
        return [2]
    return [1, table.deck.index(before)]
