"""shuffle_row, check_shuffle and check_symmetry."""

import itertools
import unittest

from helper import (BARE, FULL, FULL_DECK, GREATEST, LEAST, PRIMES, SMALL, CallCase, cards_of, check_shuffle,
                    check_symmetry, keys_of, not_card_lists, not_keys, not_orders, not_rows, shuffle_row, shuffled,
                    smallest_table)


def orders_of(count):
    return [list(order) for order in itertools.permutations(range(count))]


def rows_of(prime, count):
    return [list(row) for row in itertools.permutations(cards_of(prime), count)]


def fewest_errors(row, key, cards, prime):
    """In the order that fits best, how many cards of the list are not those that they should be."""
    return min([sum([1 for one, other in zip(shuffled(row, key, order, prime), cards) if one != other])
                for order in orders_of(len(row))])


class ShuffleRow(CallCase):

    def test_written_out(self):
        self.tells(SMALL, [
            # 2, 3, 4, 6 to the power of 3 are 8, 4, 18, 9
            (shuffle_row(3, [2, 3, 4, 6], [0, 1, 2, 3]), [0, 8, 4, 18, 9]),
            (shuffle_row(3, [2, 3, 4, 6], [3, 0, 2, 1]), [0, 9, 8, 18, 4]),
            (shuffle_row(3, [6, 2, 3], [1, 2, 0]), [0, 8, 4, 9]),
            (shuffle_row(3, [6, 2, 3], [2, 0, 1]), [0, 4, 9, 8]),
            (shuffle_row(1, [6, 2, 3], [2, 0, 1]), [0, 3, 6, 2]),
            (shuffle_row(10, [18], [0]), [0, 9])])

    def test_each_position_receives_the_card_at_the_position_given_by_the_order(self):
        # the other way round these cards would be told as 6, 2, 3
        self.tells(SMALL, [(shuffle_row(1, [2, 3, 6], [1, 2, 0]), [0, 3, 6, 2])])

    def test_every_order_and_key_of_small_rows(self):
        for prime, text in ((11, BARE), (23, SMALL)):
            for count in (1, 2, 3, 4):
                row = cards_of(prime)[:count][::-1]
                self.tells(text, [(shuffle_row(key, row, order), [0] + shuffled(row, key, order, prime))
                                  for key in keys_of(prime) for order in orders_of(count)])

    def test_rows_of_1_to_10_cards(self):
        for prime in (23, 47, 983):
            pairs = []
            for count in range(1, 11):
                row = cards_of(prime)[-count:]
                order = [(3 * place + 1) % count for place in range(count)]
                if count % 3 == 0:
                    order = list(range(count))[::-1]
                for key in (1, 2, (prime - 1) // 2 - 1):
                    pairs.append((shuffle_row(key, row, order), [0] + shuffled(row, key, order, prime)))
            self.tells(smallest_table(prime), pairs)

    def test_the_row_need_not_be_of_the_deck(self):
        self.tells("prime 23; deck 2 3;", [(shuffle_row(2, [18, 16, 13], [2, 1, 0]), [0, 8, 3, 2])])

    def test_every_prime(self):
        for prime in PRIMES:
            row = cards_of(prime)[-4:]
            key = (prime - 1) // 2 - 1
            self.tells(smallest_table(prime), [(shuffle_row(key, row, [2, 0, 3, 1]),
                                                [0] + shuffled(row, key, [2, 0, 3, 1], prime))])

    def test_wrong_keys(self):
        for prime in (11, 23, 983):
            row = cards_of(prime)[:2]
            self.refused(smallest_table(prime), [shuffle_row(key, row, [0, 1]) for key in not_keys(prime)])

    def test_wrong_rows(self):
        for prime in (11, 23, 983):
            self.refused(smallest_table(prime), [shuffle_row(1, row, list(range(len(row)))) for row in not_rows(prime)])

    def test_wrong_orders(self):
        for count in (1, 2, 3, 10):
            row = cards_of(23)[:count]
            self.refused(SMALL, [shuffle_row(3, row, order) for order in not_orders(count)])

    def test_an_order_that_fits_another_row(self):
        self.refused(SMALL, [shuffle_row(3, [2, 3, 4], orders_of(count)[0]) for count in (0, 1, 2, 4, 5, 10)])
        self.refused(SMALL, [shuffle_row(3, [], []), shuffle_row(LEAST, [GREATEST], [LEAST])])


class CheckShuffle(CallCase):

    def test_written_out(self):
        self.tells(SMALL, [
            (check_shuffle(3, [2, 3, 4, 6], [8, 4, 18, 9]), [0, 1, 0, 1, 2, 3]),
            (check_shuffle(3, [2, 3, 4, 6], [9, 8, 18, 4]), [0, 1, 3, 0, 2, 1]),
            (check_shuffle(3, [6, 2, 3], [8, 4, 9]), [0, 1, 1, 2, 0]),
            (check_shuffle(3, [2, 3, 4, 6], [9, 8, 18, 3]), [0, 0, 1]),
            (check_shuffle(3, [2, 3, 4, 6], [2, 3, 4, 6]), [0, 0, 3]),
            (check_shuffle(3, [2, 3, 4, 6], [2, 3, 12, 6]), [0, 0, 4]),
            (check_shuffle(10, [18], [9]), [0, 1, 0]),
            (check_shuffle(10, [18], [18]), [0, 0, 1])])

    def test_repeated_cards(self):
        self.tells(SMALL, [
            # each card of the list is matched at most once, and so is each one of the row
            (check_shuffle(3, [2, 3, 4, 6], [8, 8, 18, 9]), [0, 0, 1]),
            (check_shuffle(3, [2, 3, 4, 6], [8, 8, 8, 9]), [0, 0, 2]),
            (check_shuffle(3, [2, 3, 4, 6], [8, 8, 8, 8]), [0, 0, 3]),
            (check_shuffle(3, [2, 3, 4, 6], [2, 2, 2, 2]), [0, 0, 4]),
            (check_shuffle(3, [2, 3, 4, 6], [8, 8, 4, 4]), [0, 0, 2]),
            (check_shuffle(1, [2, 3], [2, 2]), [0, 0, 1])])

    def test_every_list_of_two_and_three_cards(self):
        row_and_key = [([3, 9], 2), ([5, 4], 3), ([4, 9, 3], 4), ([9, 5, 4], 1)]
        for row, key in row_and_key:
            pairs = []
            for cards in itertools.product(cards_of(11), repeat=len(row)):
                cards = list(cards)
                errors = fewest_errors(row, key, cards, 11)
                expected = [0, 0, errors]
                for order in orders_of(len(row)):
                    if shuffled(row, key, order, 11) == cards:
                        self.assertEqual(errors, 0)
                        expected = [0, 1] + order
                pairs.append((check_shuffle(key, row, cards), expected))
            self.tells(BARE, pairs)

    def test_lists_of_four_cards(self):
        row = [12, 3, 18, 2]
        pairs = []
        for turn, cards in enumerate(itertools.product(cards_of(23), repeat=4)):
            if turn % 13 == 0:
                cards = list(cards)
                errors = fewest_errors(row, 7, cards, 23)
                if errors > 0:
                    pairs.append((check_shuffle(7, row, cards), [0, 0, errors]))
        self.assertGreater(len(pairs), 700)
        self.tells(SMALL, pairs)

    def test_tells_the_order_of_shuffle_row(self):
        for count in (1, 2, 3, 4):
            row = cards_of(23)[2:2 + count]
            self.tells(SMALL, [(check_shuffle(key, row, shuffled(row, key, order, 23)), [0, 1] + order)
                               for key in keys_of(23) for order in orders_of(count)])

    def test_rows_of_ten_cards(self):
        order = [3, 0, 9, 1, 7, 5, 8, 2, 4, 6]
        for prime in (23, 47, 983):
            row = cards_of(prime)[-10:]
            for key in (1, 2, (prime - 1) // 2 - 1):
                cards = shuffled(row, key, order, prime)
                others = [card for card in cards_of(prime) if card not in cards]
                pairs = [(check_shuffle(key, row, cards), [0, 1] + order)]
                for right in range(1, 10):
                    repeated = cards[:right] + cards[:1] * (10 - right)
                    pairs.append((check_shuffle(key, row, repeated), [0, 0, 10 - right]))
                    if others:
                        foreign = others[:1] * (10 - right) + cards[10 - right:]
                        pairs.append((check_shuffle(key, row, foreign), [0, 0, 10 - right]))
                self.tells(smallest_table(prime), pairs)

    def test_all_cards_of_a_prime_match_with_every_key(self):
        row = cards_of(23)
        for key in keys_of(23):
            order = [row.index(pow(card, pow(key, -1, 11), 23)) for card in row]
            self.tells(SMALL, [(check_shuffle(key, row, row), [0, 1] + order)])

    def test_wrong_keys(self):
        for prime in (11, 23, 983):
            row = cards_of(prime)[:2]
            self.refused(smallest_table(prime), [check_shuffle(key, row, row) for key in not_keys(prime)])

    def test_wrong_rows(self):
        for prime in (11, 23, 983):
            card = cards_of(prime)[0]
            self.refused(smallest_table(prime), [check_shuffle(1, row, [card] * len(row)) for row in not_rows(prime)])

    def test_wrong_cards(self):
        for prime in (11, 23, 983):
            for row in (cards_of(prime)[:1], cards_of(prime)[:4]):
                self.refused(smallest_table(prime),
                             [check_shuffle(1, row, cards) for cards in not_card_lists(row, prime)])
        self.refused(SMALL, [check_shuffle(0, [], []), check_shuffle(LEAST, [GREATEST], [LEAST])])


class CheckSymmetry(CallCase):

    def test_written_out(self):
        self.tells(SMALL, [
            (check_symmetry(1, [2, 3, 4, 6]), [0, 1, 0, 1, 2, 3]),
            (check_symmetry(3, [2, 3, 4, 6]), [0, 0]),
            # 12 is the inverse of 2, and so its power with 10, the inverse of itself
            (check_symmetry(10, [2, 12]), [0, 1, 1, 0]),
            (check_symmetry(10, [2, 12, 3]), [0, 0]),
            (check_symmetry(10, [2, 12, 3, 8]), [0, 1, 1, 0, 3, 2]),
            (check_symmetry(10, [2]), [0, 0]),
            (check_symmetry(1, [2]), [0, 1, 0])])

    def test_a_row_that_the_powers_of_a_key_go_round(self):
        row = [2]
        while pow(row[-1], 3, 23) != 2:
            row.append(pow(row[-1], 3, 23))
        self.assertEqual(len(row), 5)
        self.tells(SMALL, [(check_symmetry(3, row), [0, 1, 4, 0, 1, 2, 3]),
                           (check_symmetry(9, row), [0, 1, 3, 4, 0, 1, 2]),
                           (check_symmetry(4, row), [0, 1, 1, 2, 3, 4, 0]),
                           (check_symmetry(1, row), [0, 1, 0, 1, 2, 3, 4]),
                           (check_symmetry(2, row), [0, 0]),
                           (check_symmetry(10, row), [0, 0]),
                           (check_symmetry(3, row[:4]), [0, 0]),
                           (check_symmetry(3, row[::-1]), [0, 1, 1, 2, 3, 4, 0])])

    def test_every_row_of_the_smallest_prime(self):
        for count in (1, 2, 3, 4):
            self.every_key([row for row in rows_of(11, count)], 11, BARE)

    def test_rows_of_three_cards(self):
        self.every_key([row for row in rows_of(23, 3)][::5], 23, SMALL)

    def test_rows_of_most_cards(self):
        rows = [cards_of(23), cards_of(23)[::-1], cards_of(23)[3:] + cards_of(23)[:3], cards_of(23)[1:],
                [2, 12, 3, 8, 4, 6, 9, 18], [2, 12, 3, 8, 4, 6, 9, 13]]
        self.every_key(rows, 23, SMALL)
        self.every_key([FULL_DECK], 47, FULL)

    def every_key(self, rows, prime, text):
        pairs = []
        for row in rows:
            for key in keys_of(prime):
                powers = shuffled(row, key, range(len(row)), prime)
                expected = [0, 0]
                if sorted(powers) == sorted(row):
                    expected = [0, 1] + [powers.index(card) for card in row]
                pairs.append((check_symmetry(key, row), expected))
        self.tells(text, pairs)

    def test_the_largest_prime(self):
        inverse = pow(4, -1, 983)
        self.tells("prime 983; deck 4 7;", [(check_symmetry(490, [4, inverse]), [0, 1, 1, 0]),
                                            (check_symmetry(489, [4, inverse]), [0, 0]),
                                            (check_symmetry(490, [inverse, 4]), [0, 1, 1, 0])])

    def test_wrong_keys(self):
        for prime in (11, 23, 983):
            row = cards_of(prime)[:2]
            self.refused(smallest_table(prime), [check_symmetry(key, row) for key in not_keys(prime)])

    def test_wrong_rows(self):
        for prime in (11, 23, 983):
            self.refused(smallest_table(prime), [check_symmetry(1, row) for row in not_rows(prime)])
        self.refused(SMALL, [check_symmetry(0, []), check_symmetry(GREATEST, [LEAST])])


if __name__ == "__main__":
    unittest.main()
