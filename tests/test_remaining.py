"""remaining_orders: how many orders are left where each card is locked with a key of its own."""

import unittest

from helper import (BARE, FULL, FULL_DECK, GREATEST, LEAST, SMALL, CallCase, cards_of, keys_of, not_card_lists,
                    not_keys, not_rows, remaining_orders, smallest_table)

FACTORIALS = [1, 1, 2, 6, 24, 120, 720, 5040, 40320, 362880, 3628800]


def locked_each(row, order, keys, prime):
    return [pow(row[place], key, prime) for place, key in zip(order, keys)]


class RemainingOrders(CallCase):

    # 4 locked with 2, 2 with 3, 6 with 10 and 3 with 1
    ROW = [2, 3, 4, 6]
    CARDS = [16, 8, 4, 3]

    def test_written_out(self):
        self.tells(SMALL, [
            (remaining_orders(self.ROW, self.CARDS, []), [0, 24]),
            (remaining_orders(self.ROW, self.CARDS, [0, 2]), [0, 6, 2]),
            (remaining_orders(self.ROW, self.CARDS, [1, 3]), [0, 6, 0]),
            (remaining_orders(self.ROW, self.CARDS, [2, 10]), [0, 6, 3]),
            (remaining_orders(self.ROW, self.CARDS, [3, 1]), [0, 6, 1]),
            (remaining_orders(self.ROW, self.CARDS, [0, 2, 1, 3]), [0, 2, 2, 0]),
            (remaining_orders(self.ROW, self.CARDS, [0, 2, 1, 3, 2, 10]), [0, 1, 2, 0, 3]),
            (remaining_orders(self.ROW, self.CARDS, [0, 2, 1, 3, 2, 10, 3, 1]), [0, 1, 2, 0, 3, 1])])

    def test_positions_stand_in_the_order_of_the_shown_keys(self):
        self.tells(SMALL, [
            (remaining_orders(self.ROW, self.CARDS, [3, 1, 0, 2]), [0, 2, 1, 2]),
            (remaining_orders(self.ROW, self.CARDS, [2, 10, 3, 1, 0, 2]), [0, 1, 3, 1, 2]),
            (remaining_orders(self.ROW, self.CARDS, [3, 1, 2, 10, 1, 3, 0, 2]), [0, 1, 1, 3, 0, 2])])

    def test_two_keys_that_open_to_the_same_card(self):
        self.tells(SMALL, [
            # 16 is 2 locked with 4, and 8 is 2 locked with 3
            (remaining_orders(self.ROW, self.CARDS, [0, 4, 1, 3]), [0, 0, 0, 0]),
            (remaining_orders(self.ROW, self.CARDS, [1, 3, 0, 4]), [0, 0, 0, 0]),
            (remaining_orders(self.ROW, self.CARDS, [0, 4, 3, 1, 1, 3]), [0, 0, 0, 1, 0]),
            (remaining_orders(self.ROW, self.CARDS, [0, 4, 3, 1, 1, 3, 2, 10]), [0, 0, 0, 1, 0, 3]),
            (remaining_orders([2, 3], [3, 3], [0, 1, 1, 1]), [0, 0, 1, 1])])

    def test_a_key_that_opens_to_no_card_of_the_row(self):
        self.tells(SMALL, [
            # 16 and 3 locked with 1 are themselves, and 16 isn't in the row
            (remaining_orders(self.ROW, self.CARDS, [0, 1]), [0, 0]),
            (remaining_orders(self.ROW, self.CARDS, [0, 1, 3, 1]), [0, 0]),
            (remaining_orders(self.ROW, self.CARDS, [3, 1, 0, 1]), [0, 0]),
            (remaining_orders(self.ROW, self.CARDS, [3, 1, 0, 1, 1, 3]), [0, 0]),
            (remaining_orders([2], [3], [0, 1]), [0, 0])])

    def test_no_card_of_the_row_is_told_ahead_of_the_same_card(self):
        self.tells(SMALL, [
            # the card that none of the row opens to stands ahead of the two that open to 2, between and behind them
            (remaining_orders([2, 3, 4], [18, 16, 8], [0, 1, 1, 4, 2, 3]), [0, 0]),
            (remaining_orders([2, 3, 4], [16, 18, 8], [0, 4, 1, 1, 2, 3]), [0, 0]),
            (remaining_orders([2, 3, 4], [16, 8, 18], [0, 4, 1, 3, 2, 1]), [0, 0]),
            # two keys open to the same card, but this isn't one of the row
            (remaining_orders([2, 3, 4], [18, 18, 8], [0, 1, 1, 1]), [0, 0])])

    def test_repeated_cards_of_the_list(self):
        self.tells(SMALL, [
            # 8 is 2 locked with 3, 3 locked with 10 and 4 locked with 7
            (remaining_orders([2, 3, 4], [8, 8, 8], []), [0, 6]),
            (remaining_orders([2, 3, 4], [8, 8, 8], [1, 10]), [0, 2, 1]),
            (remaining_orders([2, 3, 4], [8, 8, 8], [0, 3, 1, 10, 2, 7]), [0, 1, 0, 1, 2]),
            (remaining_orders([2, 3, 4], [8, 8, 8], [2, 7, 0, 3]), [0, 1, 2, 0]),
            (remaining_orders([2, 3, 4], [8, 8, 8], [0, 7, 2, 7]), [0, 0, 2, 2])])

    def test_no_shown_keys_and_all_of_them(self):
        for count in range(1, 11):
            row = FULL_DECK[:count]
            order = list(range(count))[::-1]
            keys = [22, 1, 2, 13, 5, 7, 21, 11, 4, 9][:count]
            cards = locked_each(row, order, keys, 47)
            shown = []
            pairs = []
            for position in range(count + 1):
                pairs.append((remaining_orders(row, cards, shown),
                              [0, FACTORIALS[count - position]] + order[:position]))
                if position < count:
                    shown = shown + [position, keys[position]]
            self.assertEqual(len(shown), 2 * count)
            self.tells(FULL, pairs)

    def test_a_row_of_one_card(self):
        for card in cards_of(11):
            pairs = []
            for locked in cards_of(11):
                pairs.append((remaining_orders([card], [locked], []), [0, 1]))
                for key in keys_of(11):
                    expected = [0, 1, 0] if pow(card, key, 11) == locked else [0, 0]
                    pairs.append((remaining_orders([card], [locked], [0, key]), expected))
            self.tells(BARE, pairs)

    def test_the_row_need_not_be_of_the_deck(self):
        self.tells("prime 23; deck 2 3;", [(remaining_orders([18, 16], [16, 18], [1, 1]), [0, 1, 0])])


class WrongArguments(CallCase):

    ROW = [2, 3, 4, 6]
    CARDS = [16, 8, 4, 3]

    def test_wrong_rows(self):
        for prime in (11, 23, 983):
            card = cards_of(prime)[0]
            self.refused(smallest_table(prime),
                         [remaining_orders(row, [card] * len(row), []) for row in not_rows(prime)])

    def test_wrong_cards(self):
        for prime in (11, 23, 983):
            for row in (cards_of(prime)[:1], cards_of(prime)[:4]):
                self.refused(smallest_table(prime),
                             [remaining_orders(row, cards, []) for cards in not_card_lists(row, prime)])

    def test_wrong_positions(self):
        wrong = [-1, 4, -4, 5, 60, LEAST, GREATEST]
        self.refused(SMALL, [remaining_orders(self.ROW, self.CARDS, [position, 1]) for position in wrong])
        self.refused(SMALL, [remaining_orders(self.ROW, self.CARDS, [3, 1, position, 1]) for position in wrong])
        self.refused(SMALL, [remaining_orders(self.ROW, self.CARDS, [position, 1, 3, 1]) for position in wrong])
        for count in range(1, 11):
            row = FULL_DECK[:count]
            self.tells(FULL, [(remaining_orders(row, row, [count - 1, 1]), [0, FACTORIALS[count - 1], count - 1]),
                              (remaining_orders(row, row, [count, 1]), [-1]),
                              (remaining_orders(row, row, [-1, 1]), [-1])])

    def test_a_position_twice(self):
        self.refused(SMALL, [
            remaining_orders(self.ROW, self.CARDS, [0, 2, 0, 2]),
            remaining_orders(self.ROW, self.CARDS, [0, 2, 0, 3]),
            remaining_orders(self.ROW, self.CARDS, [0, 2, 1, 3, 0, 2]),
            remaining_orders(self.ROW, self.CARDS, [3, 1, 0, 2, 1, 3, 3, 1]),
            remaining_orders(self.ROW, self.CARDS, [0, 2, 1, 3, 2, 10, 3, 1, 0, 2]),
            remaining_orders(self.ROW, self.CARDS, [0, 1, 0, 1]),
            remaining_orders([2], [2], [0, 1] * 2),
            remaining_orders([2], [2], [0, 1] * 30)])

    def test_a_number_of_numbers_that_is_odd(self):
        self.refused(SMALL, [
            remaining_orders(self.ROW, self.CARDS, [0]),
            remaining_orders(self.ROW, self.CARDS, [0, 2, 1]),
            remaining_orders(self.ROW, self.CARDS, [2, 0, 2]),
            remaining_orders(self.ROW, self.CARDS, [0, 2, 1, 3, 2, 10, 3, 1, 0]),
            remaining_orders(self.ROW, self.CARDS, [0] * 59)])

    def test_wrong_keys(self):
        for prime in (11, 23, 983):
            row = cards_of(prime)[:3]
            text = smallest_table(prime)
            self.refused(text, [remaining_orders(row, row, [0, key]) for key in not_keys(prime)])
            self.refused(text, [remaining_orders(row, row, [1, 1, 0, key]) for key in not_keys(prime)])
            self.refused(text, [remaining_orders(row, row, [0, key, 1, 1]) for key in not_keys(prime)])

    def test_wrong_keys_are_refused_where_a_key_opens_to_no_card(self):
        self.refused(SMALL, [remaining_orders(self.ROW, self.CARDS, [0, 1, 1, 0]),
                             remaining_orders(self.ROW, self.CARDS, [0, 1, 4, 1]),
                             remaining_orders(self.ROW, self.CARDS, [0, 1, 0, 1]),
                             remaining_orders([], [], []),
                             remaining_orders([LEAST], [GREATEST], [LEAST, GREATEST])])


if __name__ == "__main__":
    unittest.main()
