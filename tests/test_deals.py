"""deal and audit_deal."""

import itertools
import unittest

from helper import (BARE, BARE_DECK, FULL, FULL_DECK, FULL_KEYS, GREATEST, LEAST, PRIMES, SMALL, SMALL_DECK,
                    SMALL_KEYS, CallCase, ask, audit_deal, cards_of, deal, load_table, not_card_lists,
                    not_key_lists, not_keys, not_orders, print_table, shuffled, table_text)

FULL_ORDERS = [[3, 0, 9, 1, 7, 5, 8, 2, 4, 6], [9, 8, 7, 6, 5, 4, 3, 2, 1, 0],
               [0, 1, 2, 3, 4, 5, 6, 7, 8, 9], [5, 6, 7, 8, 9, 0, 1, 2, 3, 4]]


def lists_of(deck, keys, orders, prime):
    """What each player announces: the row before, shuffled with the player's key and order."""
    lists = []
    row = deck
    for key, order in zip(keys, orders):
        row = shuffled(row, key, order, prime)
        lists.append(row)
    return lists


def flat(rows):
    return [number for row in rows for number in row]


class Deal(CallCase):

    def test_written_out(self):
        self.tells(SMALL, [
            # ann: 8, 4, 18, 9; bob: 3, 6, 9, 18
            (deal([0, 1, 2, 3, 0, 1, 2, 3]), [0, 3, 6, 9, 18]),
            (deal([3, 0, 2, 1, 0, 1, 2, 3]), [0, 18, 3, 9, 6]),
            (deal([0, 1, 2, 3, 3, 0, 2, 1]), [0, 18, 3, 9, 6]),
            (deal([1, 2, 3, 0, 1, 0, 3, 2]), [0, 9, 6, 3, 18]),
            (deal([1, 0, 3, 2, 1, 2, 3, 0]), [0, 3, 18, 9, 6])])

    def test_without_players_the_deal_is_the_deck(self):
        self.tells(BARE, [(deal([]), [0, 4, 3])])
        self.tells("prime 47; deck 16 2 3 4 6 7 8 9 12 14;", [(deal([]), [0, 16, 2, 3, 4, 6, 7, 8, 9, 12, 14])])

    def test_one_player(self):
        self.tells("prime 23; deck 6 2 3; player a key 3;", [
            (deal([1, 2, 0]), [0, 8, 4, 9]), (deal([2, 0, 1]), [0, 4, 9, 8]), (deal([0, 1, 2]), [0, 9, 8, 4])])

    def test_four_players_and_ten_cards(self):
        for orders in itertools.permutations(FULL_ORDERS):
            dealt = lists_of(FULL_DECK, FULL_KEYS, orders, 47)[-1]
            self.tells(FULL, [(deal(flat(orders)), [0] + dealt)])

    def test_every_two_orders_of_three_cards(self):
        orders = list(itertools.permutations(range(3)))
        pairs = []
        for one in orders:
            for other in orders:
                dealt = lists_of([18, 2, 13], [7, 2], [one, other], 23)[-1]
                pairs.append((deal(list(one) + list(other)), [0] + dealt))
        self.tells(table_text(23, [18, 2, 13], [7, 2]), pairs)

    def test_every_prime(self):
        for prime in PRIMES:
            deck = cards_of(prime)[-3:]
            keys = [(prime - 1) // 2 - 1, 1, 2]
            orders = [[2, 0, 1], [1, 0, 2], [0, 2, 1]]
            self.tells(table_text(prime, deck, keys),
                       [(deal(flat(orders)), [0] + lists_of(deck, keys, orders, prime)[-1])])

    def test_a_deal_does_not_change_the_deck(self):
        for text in (BARE, SMALL, FULL):
            orders = flat(FULL_ORDERS) if text == FULL else [1, 0, 3, 2] * 2 if text == SMALL else []
            told = ask([load_table(text), print_table(), deal(orders), print_table(), deal(orders), print_table()])
            self.assertEqual(told[1], told[3])
            self.assertEqual(told[1], told[5])
            self.assertEqual(told[2], told[4])

    def test_wrong_orders(self):
        right = [1, 0, 3, 2]
        for wrong in not_orders(4):
            if len(wrong) <= 56:
                self.refused(SMALL, [deal(wrong + right), deal(right + wrong)])
            if wrong != [0, 1, 2, 3, 0, 1, 2, 3]:
                self.refused(SMALL, [deal(wrong)])

    def test_too_few_and_too_many_orders(self):
        right = [0, 1, 2, 3]
        self.refused(SMALL, [deal(right * count) for count in (0, 1, 3, 4, 15)])
        self.refused(SMALL, [deal(right + right[:count]) for count in (1, 2, 3)])
        self.refused(SMALL, [deal(right + right + right[:count]) for count in (1, 2, 3)])
        self.refused(FULL, [deal(list(range(10)) * count) for count in (0, 1, 2, 3, 5, 6)])
        self.refused(FULL, [deal(list(range(40))), deal(flat(FULL_ORDERS)[:-1]), deal(flat(FULL_ORDERS) + [0])])
        self.refused(BARE, [deal([0]), deal([0, 1]), deal([1, 0]), deal([GREATEST]), deal([0, 1] * 30)])

    def test_orders_that_are_divided_in_another_place(self):
        # of another length each, these would be orders
        self.refused(SMALL, [deal([0, 1, 2, 4, 3, 0, 1, 2]), deal([0, 1, 2, 0, 1, 2, 3, 4]),
                             deal([0, 1, 2, 3, 4, 5, 6, 7]), deal([0, 1] * 4), deal([0, 0, 1, 1, 2, 2, 3, 3])])

    def test_numbers_at_the_limits(self):
        for number in (LEAST, GREATEST, -1, 4):
            for place in range(8):
                orders = [0, 1, 2, 3, 0, 1, 2, 3]
                orders[place] = number
                self.refused(SMALL, [deal(orders)])


class AuditOfARightDeal(CallCase):

    def test_written_out(self):
        self.tells(SMALL, [
            (audit_deal([3, 10], [8, 4, 18, 9, 3, 6, 9, 18]), [0, 1, 0, 1, 2, 3, 0, 1, 2, 3]),
            (audit_deal([3, 10], [9, 8, 18, 4, 18, 3, 9, 6]), [0, 1, 3, 0, 2, 1, 0, 1, 2, 3]),
            (audit_deal([3, 10], [4, 18, 9, 8, 9, 6, 3, 18]), [0, 1, 1, 2, 3, 0, 1, 0, 3, 2])])

    def test_without_players(self):
        self.tells(BARE, [(audit_deal([], []), [0, 1])])
        self.tells("prime 23; deck 6 2 3;", [(audit_deal([], []), [0, 1])])

    def test_one_player(self):
        self.tells("prime 23; deck 6 2 3; player a key 3;", [
            (audit_deal([3], [8, 4, 9]), [0, 1, 1, 2, 0]), (audit_deal([3], [9, 8, 4]), [0, 1, 0, 1, 2])])

    def test_four_players_and_ten_cards(self):
        for orders in itertools.permutations(FULL_ORDERS):
            lists = lists_of(FULL_DECK, FULL_KEYS, orders, 47)
            self.tells(FULL, [(audit_deal(FULL_KEYS, flat(lists)), [0, 1] + flat(orders))])

    def test_the_revealed_keys_count_and_not_those_of_the_table(self):
        for keys in itertools.product([1, 2, 10], repeat=2):
            orders = [[2, 0, 3, 1], [3, 2, 1, 0]]
            lists = lists_of(SMALL_DECK, keys, orders, 23)
            pairs = [(audit_deal(list(keys), flat(lists)), [0, 1] + flat(orders))]
            if keys[0] != 3:
                fits = len([card for card in shuffled(SMALL_DECK, 3, range(4), 23) if card in lists[0]])
                if fits < 4:
                    pairs.append((audit_deal(SMALL_KEYS, flat(lists)), [0, 0, 0, 4 - fits]))
            self.tells(SMALL, pairs)


class AuditOfAWrongDeal(CallCase):

    def test_written_out(self):
        self.tells(SMALL, [
            (audit_deal([3, 10], [8, 4, 18, 3, 3, 6, 9, 18]), [0, 0, 0, 1]),
            (audit_deal([3, 10], [2, 3, 4, 6, 3, 6, 9, 18]), [0, 0, 0, 3]),
            (audit_deal([3, 10], [8, 4, 18, 9, 3, 6, 9, 16]), [0, 0, 1, 1]),
            (audit_deal([3, 10], [8, 4, 18, 9, 8, 4, 18, 9]), [0, 0, 1, 2]),
            (audit_deal([10, 3], [8, 4, 18, 9, 3, 6, 9, 18]), [0, 0, 0, 2]),
            (audit_deal([3, 9], [8, 4, 18, 9, 3, 6, 9, 18]), [0, 0, 1, 3])])

    def test_repeated_cards(self):
        self.tells(SMALL, [
            (audit_deal([3, 10], [8, 8, 18, 9, 3, 6, 9, 18]), [0, 0, 0, 1]),
            (audit_deal([3, 10], [8, 8, 8, 8, 3, 6, 9, 18]), [0, 0, 0, 3]),
            (audit_deal([3, 10], [8, 4, 18, 9, 3, 3, 9, 18]), [0, 0, 1, 1]),
            (audit_deal([3, 10], [8, 4, 18, 9, 3, 3, 3, 3]), [0, 0, 1, 3]),
            (audit_deal([3, 10], [8, 4, 18, 9, 2, 2, 2, 2]), [0, 0, 1, 4])])

    def test_each_player_and_number_of_errors(self):
        lists = lists_of(FULL_DECK, FULL_KEYS, FULL_ORDERS, 47)
        for player in range(4):
            foreign = [card for card in cards_of(47) if card not in lists[player]]
            for errors in range(1, 11):
                wrong = lists[player][errors:] + foreign[:errors]
                changed = lists[:player] + [wrong] + lists[player + 1:]
                self.tells(FULL, [(audit_deal(FULL_KEYS, flat(changed)), [0, 0, player, errors])])
                repeated = lists[:player] + [lists[player][errors:] + foreign[:1] * errors] + lists[player + 1:]
                self.tells(FULL, [(audit_deal(FULL_KEYS, flat(repeated)), [0, 0, player, errors])])

    def test_the_first_wrong_player_is_told(self):
        lists = lists_of(FULL_DECK, FULL_KEYS, FULL_ORDERS, 47)
        for wrong in itertools.product([False, True], repeat=4):
            changed = []
            for row, is_wrong in zip(lists, wrong):
                foreign = [card for card in cards_of(47) if card not in row]
                changed.append(foreign[:1] + row[1:] if is_wrong else row)
            expected = [0, 1] + flat(FULL_ORDERS)
            if True in wrong:
                # the list behind a wrong one is wrong too, but isn't checked
                expected = [0, 0, wrong.index(True), 1]
            self.tells(FULL, [(audit_deal(FULL_KEYS, flat(changed)), expected)])

    def test_later_lists_start_from_the_list_that_was_announced(self):
        # bob leaves his cards where they were, so his list fits what ann announced, but not her true list
        self.tells(SMALL, [(audit_deal([3, 1], [8, 4, 18, 9, 9, 8, 18, 4]), [0, 1, 0, 1, 2, 3, 3, 0, 2, 1]),
                           (audit_deal([3, 1], [8, 4, 18, 9, 2, 3, 4, 6]), [0, 0, 1, 3]),
                           (audit_deal([1, 3], [2, 3, 4, 6, 9, 8, 18, 4]), [0, 1, 0, 1, 2, 3, 3, 0, 2, 1])])

    def test_wrong_revealed_keys(self):
        lists = lists_of(FULL_DECK, FULL_KEYS, FULL_ORDERS, 47)
        for player in range(4):
            before = ([FULL_DECK] + lists)[player]
            for key in (1, 4, 21):
                keys = FULL_KEYS[:player] + [key] + FULL_KEYS[player + 1:]
                missing = [card for card in shuffled(before, key, range(10), 47) if card not in lists[player]]
                self.assertGreater(len(missing), 0)
                self.tells(FULL, [(audit_deal(keys, flat(lists)), [0, 0, player, len(missing)])])

    def test_every_list_of_a_small_deck(self):
        pairs = []
        for first in itertools.product(cards_of(11), repeat=2):
            for second in itertools.product(cards_of(11), repeat=2):
                expected = self.audited([4, 3], [2, 3], [list(first), list(second)], 11)
                pairs.append((audit_deal([2, 3], list(first) + list(second)), expected))
        self.tells("prime 11; deck 4 3; player a key 1; player b key 1;", pairs)

    def audited(self, before, keys, lists, prime):
        orders = []
        for player, key in enumerate(keys):
            powers = shuffled(before, key, range(len(before)), prime)
            if sorted(powers) != sorted(lists[player]):
                return [0, 0, player, len(set(powers) - set(lists[player]))]
            orders.extend([powers.index(card) for card in lists[player]])
            before = lists[player]
        return [0, 1] + orders


class WrongArguments(CallCase):

    RIGHT = [8, 4, 18, 9, 3, 6, 9, 18]

    def test_wrong_revealed(self):
        self.refused(SMALL, [audit_deal(keys, self.RIGHT) for keys in not_key_lists([3, 10], 23)])
        lists = flat(lists_of(FULL_DECK, FULL_KEYS, FULL_ORDERS, 47))
        self.refused(FULL, [audit_deal(keys, lists) for keys in not_key_lists(FULL_KEYS, 47)])
        self.refused(BARE, [audit_deal(keys, []) for keys in not_key_lists([], 11)])

    def test_wrong_lists(self):
        self.refused(SMALL, [audit_deal([3, 10], lists) for lists in not_card_lists(self.RIGHT, 23)])
        lists = flat(lists_of(FULL_DECK, FULL_KEYS, FULL_ORDERS, 47))
        self.refused(FULL, [audit_deal(FULL_KEYS, wrong) for wrong in not_card_lists(lists, 47)])
        self.refused(BARE, [audit_deal([], wrong) for wrong in not_card_lists([], 11) + [BARE_DECK]])

    def test_too_few_and_too_many_lists(self):
        self.refused(SMALL, [audit_deal([3, 10], self.RIGHT[:count]) for count in range(8)])
        self.refused(SMALL, [audit_deal([3, 10], self.RIGHT + self.RIGHT[:count]) for count in range(1, 9)])

    def test_as_many_keys_as_lists_but_not_as_players(self):
        self.refused(SMALL, [audit_deal([], []), audit_deal([3], self.RIGHT[:4]),
                             audit_deal([3, 10, 1], self.RIGHT + self.RIGHT[4:])])
        self.refused(BARE, [audit_deal([1], BARE_DECK)])

    def test_wrong_arguments_behind_a_wrong_list(self):
        # the audit would end with the first player, but the arguments are looked at first
        wrong = [2, 3, 4, 6]
        self.refused(SMALL, [audit_deal([3, key], wrong + self.RIGHT[4:]) for key in not_keys(23)])
        self.refused(SMALL, [audit_deal([3, 10], wrong + last) for last in not_card_lists(self.RIGHT[4:], 23)
                             if len(last) <= 56])


if __name__ == "__main__":
    unittest.main()
