"""The five requirements, over whole games and over everything that small tables have."""

import itertools
import math
import unittest

from helper import (BARE, FULL, FULL_DECK, FULL_KEYS, SMALL, SMALL_DECK, SMALL_KEYS, CallCase, ask, ask_many,
                    audit_deal, audit_opening, cards_of, check_lock, check_shuffle, check_symmetry, deal, joint_key,
                    keys_of, load_table, lock, open_card, raise_number, remaining_orders, shuffle_row, status,
                    table_text, unlock)


def orders_of(count):
    return [list(order) for order in itertools.permutations(range(count))]


def inverse_order(order):
    return [order.index(place) for place in range(len(order))]


class Point1(CallCase):
    """Locks can be put on and taken off in any order."""

    def test_cards(self):
        keys = [3, 10, 7]
        table = load_table(SMALL)
        for card in cards_of(23):
            for on in itertools.permutations(keys):
                locked = card
                for key in on:
                    locked = ask([table, lock(locked, key)])[1][1]
                for off in itertools.permutations(keys):
                    left = locked
                    for key in off:
                        left = ask([table, unlock(left, key)])[1][1]
                    self.assertEqual(left, card)

    def test_locks_put_on_and_taken_off_in_turns(self):
        table = load_table(FULL)
        # a lock is named by its key, and taken off with the key below 0
        for card in cards_of(47):
            for turns in ([5, 7, -5, 9, -7, -9], [5, 7, -7, 9, -5, -9], [-5, 5, -9, -9, 9, 9], [22, 22, -22, -22],
                          [21, 13, 2, -13, 4, -2, -4, -21]):
                left = card
                for turn in turns:
                    left = ask([table, lock(left, turn) if turn > 0 else unlock(left, -turn)])[1][1]
                self.assertEqual(left, card)

    def test_rows(self):
        inverses = {3: 4, 10: 10, 7: 8}
        for order in orders_of(3):
            for on in itertools.permutations([3, 10, 7]):
                row = [2, 6, 13]
                for key in on:
                    row = ask([load_table(SMALL), shuffle_row(key, row, order)])[1][1:]
                for key in sorted(on):
                    row = ask([load_table(SMALL), shuffle_row(inverses[key], row, inverse_order(order))])[1][1:]
                self.assertEqual(row, [2, 6, 13])

    def test_the_order_of_the_players_does_not_matter_to_an_opening(self):
        for keys in itertools.permutations(FULL_KEYS):
            text = table_text(47, FULL_DECK, keys)
            alone = table_text(47, FULL_DECK, FULL_KEYS)
            for card in cards_of(47):
                self.assertEqual(ask([load_table(text), open_card(0, [card] * 10)]),
                                 ask([load_table(alone), open_card(0, [card] * 10)]))


class Point2(CallCase):
    """An audit with the true keys accepts every deal and every opening."""

    def play(self, text, prime, deck, keys, orders):
        """A whole game, in which each call is given what the calls before have answered."""
        table = load_table(text)
        lists = []
        row = deck
        for key, order in zip(keys, orders):
            row = ask([table, shuffle_row(key, row, order)])[1][1:]
            lists.append(row)
        flat_orders = [place for order in orders for place in order]
        flat_lists = [card for one in lists for card in one]
        dealt, audited = ask([table, deal(flat_orders), audit_deal(keys, flat_lists)])[1:]
        self.assertEqual(dealt, [0] + row)
        self.assertEqual(audited, [0, 1] + flat_orders)
        self.open_all(table, deck, keys, row)
        missing = [card for card in cards_of(prime) if card not in row]
        self.open_all(table, deck, keys, (missing * 10)[:len(deck)] if missing else row)

    def open_all(self, table, deck, keys, cards):
        for position in range(len(cards)):
            announced = []
            card = cards[position]
            for key in keys:
                card = ask([table, unlock(card, key)])[1][1]
                announced.append(card)
            told, audited = ask([table, open_card(position, cards),
                                 audit_opening(position, keys, cards, announced)])[1:]
            if card in deck:
                self.assertEqual(told, [0, deck.index(card)])
                self.assertEqual(audited, [0, 1, deck.index(card)])
            else:
                self.assertEqual(told, [-6])
                self.assertEqual(audited, [0, 2])

    def test_games_of_up_to_four_players(self):
        for count in range(5):
            for cards in (2, 3, 10):
                orders = [[(place * 3 + player) % cards for place in range(cards)] if cards != 3
                          else orders_of(3)[player + 1] for player in range(count)]
                deck = FULL_DECK[:cards]
                keys = FULL_KEYS[:count]
                self.play(table_text(47, deck, keys), 47, deck, keys, orders)

    def test_every_two_orders_of_a_small_deck(self):
        for one in orders_of(3):
            for other in orders_of(3):
                self.play("prime 11; deck 9 3 5; player a key 2; player b key 3;", 11, [9, 3, 5], [2, 3], [one, other])

    def test_every_two_keys_of_a_small_deck(self):
        for one in keys_of(23):
            for other in keys_of(23):
                self.play(table_text(23, [18, 3], [one, other]), 23, [18, 3], [one, other], [[1, 0], [0, 1]])

    def test_the_deal_is_opened_to_the_cards_of_the_orders(self):
        for one in orders_of(4):
            for other in (orders_of(4)[7], orders_of(4)[18]):
                table = load_table(SMALL)
                dealt = ask([table, deal(one + other)])[1][1:]
                told = ask([table] + [open_card(position, dealt) for position in range(4)])[1:]
                self.assertEqual(told, [[0, one[other[position]]] for position in range(4)])


class Point2Symmetries(CallCase):
    """A list shuffled with one key is accepted with another one exactly where they differ by a symmetry."""

    ROWS = [[2], [2, 12], [2, 3], [2, 12, 3], [2, 12, 3, 8], [2, 3, 4, 6], [2, 8, 6, 9, 16], [2, 8, 6, 9, 4],
            [18, 12, 16, 3, 13, 9, 6, 2, 4, 8], [18, 12, 16, 3, 13, 9, 6, 2, 4]]

    def symmetries(self, row):
        told = ask_many(load_table(SMALL), [check_symmetry(key, row) for key in keys_of(23)])
        return [key for key, answer in zip(keys_of(23), told) if answer[:2] == [0, 1]]

    def test_there_are_rows_with_more_symmetries_than_one(self):
        counts = [len(self.symmetries(row)) for row in self.ROWS]
        self.assertIn(1, counts)
        self.assertIn(2, counts)
        self.assertIn(10, counts)
        for row in self.ROWS:
            self.assertIn(1, self.symmetries(row))
        through_five = [2]
        while pow(through_five[-1], 3, 23) != 2:
            through_five.append(pow(through_five[-1], 3, 23))
        self.assertEqual(self.symmetries(through_five), [1, 3, 4, 5, 9])
        self.accepts_exactly_with_symmetries(through_five)

    def test_shuffles(self):
        for row in self.ROWS:
            self.accepts_exactly_with_symmetries(row)

    def accepts_exactly_with_symmetries(self, row):
        table = load_table(SMALL)
        symmetries = self.symmetries(row)
        order = [(place + 1) % len(row) for place in range(len(row))]
        for one in keys_of(23):
            cards = ask([table, shuffle_row(one, row, order)])[1][1:]
            told = ask([table] + [check_shuffle(other, row, cards) for other in keys_of(23)])[1:]
            for other, answer in zip(keys_of(23), told):
                differ = [key for key in symmetries if one * key % 11 == other]
                self.assertEqual(answer[1], 1 if differ else 0, (row, one, other))
                if differ:
                    again = ask([table, shuffle_row(other, row, answer[2:])])[1][1:]
                    self.assertEqual(again, cards)

    def test_deals(self):
        for row in self.ROWS:
            if len(row) > 1:
                table = load_table(table_text(23, row, [5]))
                symmetries = self.symmetries(row)
                for one in keys_of(23):
                    cards = ask([table, shuffle_row(one, row, list(range(len(row))))])[1][1:]
                    told = ask([table] + [audit_deal([other], cards) for other in keys_of(23)])[1:]
                    for other, answer in zip(keys_of(23), told):
                        accepted = other * pow(one, -1, 11) % 11 in symmetries
                        self.assertEqual(answer[1], 1 if accepted else 0, (row, one, other))


class Point3(CallCase):
    """An accepted opening is one with the joint key of the revealed keys."""

    def test_every_opening_of_two_players(self):
        table = load_table("prime 11; deck 4 3; player a key 1; player b key 3;")
        for one, other in itertools.product(keys_of(11), repeat=2):
            joint = ask([table, joint_key([one, other])])[1][1]
            accepted = 0
            for card, first, second in itertools.product(cards_of(11), repeat=3):
                told, locks, left = ask([table, audit_opening(0, [one, other], [card, 4], [first, second]),
                                         check_lock(second, card, joint), unlock(card, joint)])[1:]
                if told[1] != 0:
                    accepted += 1
                    self.assertEqual(locks, [0, 1])
                    self.assertEqual(left, [0, second])
                    self.assertEqual(told, [0, 1, [4, 3].index(second)] if second in (4, 3) else [0, 2])
            # for each card there is one way that is accepted
            self.assertEqual(accepted, 4)

    def test_three_and_four_players(self):
        for keys in (FULL_KEYS[:3], FULL_KEYS, [1, 1, 1], [22, 22, 22, 22]):
            table = load_table(table_text(47, FULL_DECK, [7] * len(keys)))
            joint = ask([table, joint_key(keys)])[1][1]
            for card in cards_of(47):
                left = card
                announced = []
                for key in keys:
                    left = ask([table, unlock(left, key)])[1][1]
                    announced.append(left)
                told = ask([table, audit_opening(9, keys, [2] * 9 + [card], announced), unlock(card, joint)])[1:]
                self.assertEqual(told[1], [0, announced[-1]])
                self.assertEqual(told[0], [0, 1, FULL_DECK.index(left)] if left in FULL_DECK else [0, 2])

    def test_no_players(self):
        table = load_table(BARE)
        for card in cards_of(11):
            told = ask([table, audit_opening(0, [], [card, 4], []), joint_key([]), unlock(card, 1)])[1:]
            self.assertEqual(told[0], [0, 1, [4, 3].index(card)] if card in (4, 3) else [0, 2])
            self.assertEqual(told[1:], [[0, 1], [0, card]])


class Point4(CallCase):
    """The number of remaining orders is that of the orders that agree with the shown keys."""

    def agreeing(self, row, cards, shown, prime):
        """How many orders there are for which each position has a key that locks the card to that of the list."""
        count = 0
        for order in orders_of(len(row)):
            agrees = True
            for position, place in enumerate(order):
                keys = [shown[position]] if position in shown else keys_of(prime)
                if cards[position] not in [pow(row[place], key, prime) for key in keys]:
                    agrees = False
            count += 1 if agrees else 0
        return count

    def expected(self, row, cards, shown, prime):
        opened = [[card for card in cards_of(prime) if pow(card, key, prime) == cards[position]][0]
                  for position, key in shown.items()]
        count = self.agreeing(row, cards, shown, prime)
        if [card for card in opened if card not in row]:
            self.assertEqual(count, 0)
            return [0, 0]
        return [0, count] + [row.index(card) for card in opened]

    def test_every_list_and_shown_keys_of_two_cards(self):
        for row in itertools.permutations(cards_of(11), 2):
            pairs = []
            for cards in itertools.product(cards_of(11), repeat=2):
                for keys in itertools.product([0] + keys_of(11), repeat=2):
                    for positions in ([0, 1], [1, 0]):
                        # a key of 0 stands for one that isn't shown
                        shown = {position: keys[position] for position in positions if keys[position] > 0}
                        numbers = [number for pair in shown.items() for number in pair]
                        pairs.append((remaining_orders(list(row), list(cards), numbers),
                                      self.expected(list(row), cards, shown, 11)))
            self.tells(BARE, pairs)

    def test_shown_keys_of_four_cards(self):
        row = [2, 3, 4, 6]
        for cards in ([16, 8, 4, 3], [3, 3, 3, 3], [18, 18, 2, 13], row):
            pairs = []
            for count in range(5):
                for turn, positions in enumerate(itertools.permutations(range(4), count)):
                    for start in range(1, 11):
                        keys = [(start + turn * place * 3) % 10 + 1 for place in range(count)]
                        shown = dict(zip(positions, keys))
                        numbers = [number for pair in shown.items() for number in pair]
                        pairs.append((remaining_orders(row, cards, numbers), self.expected(row, cards, shown, 23)))
            self.tells(SMALL, pairs)

    def test_all_true_keys_of_four_cards(self):
        row = [2, 3, 4, 6]
        for order in orders_of(4):
            keys = [order[1] + 2, 5, order[0] + 4, 10]
            cards = [pow(row[place], key, 23) for place, key in zip(order, keys)]
            pairs = []
            for count in range(5):
                for positions in itertools.combinations(range(4), count):
                    shown = {position: keys[position] for position in positions}
                    numbers = [number for pair in shown.items() for number in pair]
                    pairs.append((remaining_orders(row, cards, numbers),
                                  [0, math.factorial(4 - count)] + [order[position] for position in positions]))
            self.tells(SMALL, pairs)

    def test_no_shown_keys(self):
        for count in range(1, 6):
            row = cards_of(23)[:count]
            for cards in (row, row[::-1], [18] * count):
                self.assertEqual(self.agreeing(row, cards, {}, 23), math.factorial(count))
                self.tells(SMALL, [(remaining_orders(row, cards, []), [0, math.factorial(count)])])


class Point5(CallCase):
    """Whether a number is a square is preserved."""

    def test_raising(self):
        for prime, text in ((11, BARE), (23, SMALL), (59, table_text(59, [3, 4], []))):
            exponents = [exponent for exponent in range(1, prime) if math.gcd(exponent, prime - 1) == 1]
            calls = [raise_number(number, exponent) for number in range(1, prime) for exponent in exponents]
            told = ask_many(load_table(text), calls)
            for one, answer in zip(calls, told):
                self.assertEqual(answer[2], answer[3], one)
                self.assertEqual(answer[2], 1 if one[1] == 1 or one[1] in cards_of(prime) else 0, one)
            # half of all numbers are squares
            self.assertEqual(sum([answer[2] for answer in told]) * 2, len(told))

    def test_locked_cards_are_squares(self):
        for card in cards_of(23):
            for key in keys_of(23):
                told = ask([load_table(SMALL), lock(card, key)])[1]
                self.assertEqual(ask([load_table(SMALL), raise_number(told[1], 1)])[1], [0, told[1], 1, 1])


class NothingElseChanges(CallCase):
    """A game that is played in one list of calls is the same as one whose calls are asked alone."""

    def test_one_list(self):
        calls = [status(), deal([3, 0, 2, 1, 0, 1, 2, 3]), open_card(0, [18, 3, 9, 6]), open_card(9, [18, 3, 9, 6]),
                 audit_deal(SMALL_KEYS, [9, 8, 18, 4, 18, 3, 9, 6]), shuffle_row(3, SMALL_DECK, [3, 0, 2, 1]),
                 audit_opening(0, SMALL_KEYS, [18, 3, 9, 6], [4, 6]), remaining_orders(SMALL_DECK, SMALL_DECK, [0, 1]),
                 check_shuffle(3, SMALL_DECK, [9, 8, 18, 4]), check_symmetry(1, SMALL_DECK), open_card(0, [2] * 4)]
        alone = [ask([load_table(SMALL), one])[1] for one in calls]
        self.assertEqual(ask([load_table(SMALL)] + calls + calls)[1:], alone + alone)
        self.assertEqual([answer[0] for answer in alone], [0, 0, 0, -1, 0, 0, 0, 0, 0, 0, -6])


if __name__ == "__main__":
    unittest.main()
