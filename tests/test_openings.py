"""open and audit_opening."""

import itertools
import unittest

from helper import (BARE, BARE_DECK, FULL, FULL_DECK, FULL_KEYS, GREATEST, LEAST, PRIMES, SMALL, SMALL_DECK,
                    CallCase, ask, audit_opening, cards_of, deal, keys_of, load_table, not_card_lists,
                    not_key_lists, not_keys, open_card, opened, print_table, table_text)


def announced_by(card, keys, prime):
    """What each player announces, who takes off the key named for them."""
    return [opened(card, keys[:count + 1], prime) for count in range(len(keys))]


def not_positions(count):
    return [-1, count, -count, count + 1, 10, 60, LEAST, LEAST + 1, GREATEST - 1, GREATEST]


class Open(CallCase):

    # 3, 6, 9, 18 are 2, 3, 4, 6 with the locks 3 and 10
    DEALT = [3, 6, 9, 18]

    def test_written_out(self):
        self.tells(SMALL, [(open_card(position, self.DEALT), [0, position]) for position in range(4)])
        self.tells(SMALL, [(open_card(position, [18, 3, 9, 6]), [0, [3, 0, 2, 1][position]])
                           for position in range(4)])

    def test_without_players(self):
        self.tells(BARE, [(open_card(0, [4, 3]), [0, 0]), (open_card(1, [4, 3]), [0, 1]),
                          (open_card(0, [3, 4]), [0, 1]), (open_card(1, [3, 4]), [0, 0]),
                          (open_card(0, [5, 4]), [-6]), (open_card(1, [5, 4]), [0, 0]),
                          (open_card(0, [4, 9]), [0, 0]), (open_card(1, [4, 9]), [-6])])

    def test_a_card_that_is_not_in_the_deck(self):
        self.tells(SMALL, [(open_card(0, [card, 3, 3, 3]), [0, self.DEALT.index(card)] if card in self.DEALT else [-6])
                           for card in cards_of(23)])
        # without locks, the cards of the deck are 13, 2, 8, 3
        self.tells(SMALL, [(open_card(0, SMALL_DECK), [-6]), (open_card(1, SMALL_DECK), [0, 0]),
                           (open_card(2, SMALL_DECK), [-6]), (open_card(3, SMALL_DECK), [0, 1])])

    def test_repeated_cards(self):
        self.tells(SMALL, [(open_card(position, [9, 9, 9, 9]), [0, 2]) for position in range(4)])
        self.tells(SMALL, [(open_card(position, [6, 18, 6, 18]), [0, [1, 3, 1, 3][position]]) for position in range(4)])

    def test_one_player(self):
        deck = [18, 2, 9]
        for key in keys_of(23):
            text = table_text(23, deck, [key])
            pairs = []
            for card in cards_of(23):
                found = opened(card, [key], 23)
                pairs.append((open_card(1, [2, card, 2]), [0, deck.index(found)] if found in deck else [-6]))
            self.tells(text, pairs)

    def test_four_players_and_ten_cards(self):
        for card in cards_of(47):
            found = opened(card, FULL_KEYS, 47)
            for position in (0, 4, 9):
                cards = FULL_DECK[:position] + [card] + FULL_DECK[position + 1:]
                self.tells(FULL, [(open_card(position, cards),
                                   [0, FULL_DECK.index(found)] if found in FULL_DECK else [-6])])

    def test_every_prime(self):
        for prime in PRIMES:
            deck = cards_of(prime)[-3:]
            keys = [(prime - 1) // 2 - 1, 2]
            text = table_text(prime, deck, keys)
            dealt = ask([load_table(text), deal([2, 0, 1, 2, 0, 1])])[1][1:]
            self.tells(text, [(open_card(0, dealt), [0, 1]), (open_card(1, dealt), [0, 2]),
                              (open_card(2, dealt), [0, 0])])

    def test_opening_changes_nothing(self):
        told = ask([load_table(SMALL), print_table(), open_card(0, self.DEALT), open_card(0, [2] * 4),
                    open_card(9, self.DEALT), print_table(), open_card(0, self.DEALT)])
        self.assertEqual(told[2:5], [[0, 0], [-6], [-1]])
        self.assertEqual(told[1], told[5])
        self.assertEqual(told[2], told[6])

    def test_wrong_positions(self):
        self.refused(SMALL, [open_card(position, self.DEALT) for position in not_positions(4)])
        self.refused(BARE, [open_card(position, [4, 3]) for position in not_positions(2)])
        self.refused(FULL, [open_card(position, FULL_DECK) for position in not_positions(10)])

    def test_wrong_cards(self):
        self.refused(SMALL, [open_card(0, cards) for cards in not_card_lists(self.DEALT, 23)])
        self.refused(SMALL, [open_card(3, cards) for cards in not_card_lists(self.DEALT, 23)])
        self.refused(BARE, [open_card(0, cards) for cards in not_card_lists(BARE_DECK, 11)])
        self.refused(FULL, [open_card(9, cards) for cards in not_card_lists(FULL_DECK, 47)])

    def test_a_wrong_argument_is_told_ahead_of_a_card_that_is_not_in_the_deck(self):
        self.tells(SMALL, [(open_card(0, [2, 3, 6, 9]), [-6])])
        self.refused(SMALL, [open_card(0, [2, 3, 6, 5]), open_card(0, [2, 3, 6]), open_card(0, [2, 3, 6, 9, 9]),
                             open_card(4, [2, 2, 2, 2]), open_card(-1, [2, 2, 2, 2]),
                             open_card(LEAST, [GREATEST] * 60), open_card(GREATEST, [])])


class AuditOfARightOpening(CallCase):

    def test_written_out(self):
        self.tells(SMALL, [
            # 3 without the lock 3 is 3 ** 4, which is 12, and this without the lock 10 is 2
            (audit_opening(0, [3, 10], [3, 6, 9, 18], [12, 2]), [0, 1, 0]),
            (audit_opening(1, [3, 10], [6, 3, 9, 18], [12, 2]), [0, 1, 0]),
            (audit_opening(0, [10, 3], [3, 6, 9, 18], [8, 2]), [0, 1, 0]),
            (audit_opening(1, [3, 10], [3, 6, 9, 18], [8, 3]), [0, 1, 1]),
            (audit_opening(2, [3, 10], [3, 6, 9, 18], [6, 4]), [0, 1, 2]),
            (audit_opening(3, [3, 10], [3, 6, 9, 18], [4, 6]), [0, 1, 3]),
            (audit_opening(0, [1, 1], [3, 6, 9, 18], [3, 3]), [0, 1, 1]),
            (audit_opening(2, [1, 1], [3, 6, 9, 18], [9, 9]), [0, 2])])

    def test_without_players(self):
        self.tells(BARE, [(audit_opening(0, [], [3, 5], []), [0, 1, 1]), (audit_opening(1, [], [3, 5], []), [0, 2]),
                          (audit_opening(0, [], [5, 3], []), [0, 2]), (audit_opening(1, [], [3, 4], []), [0, 1, 0])])

    def test_one_player(self):
        deck = [18, 2, 9]
        for key in keys_of(23):
            pairs = []
            for card in cards_of(23):
                found = opened(card, [key], 23)
                pairs.append((audit_opening(2, [key], [2, 2, card], [found]),
                              [0, 1, deck.index(found)] if found in deck else [0, 2]))
            self.tells(table_text(23, deck, [5]), pairs)

    def test_four_players_and_ten_cards(self):
        for card in cards_of(47):
            announced = announced_by(card, FULL_KEYS, 47)
            found = announced[3]
            for position in (0, 5, 9):
                cards = FULL_DECK[:position] + [card] + FULL_DECK[position + 1:]
                self.tells(FULL, [(audit_opening(position, FULL_KEYS, cards, announced),
                                   [0, 1, FULL_DECK.index(found)] if found in FULL_DECK else [0, 2])])

    def test_the_revealed_keys_count_and_not_those_of_the_table(self):
        for keys in itertools.product([1, 2, 9], repeat=2):
            announced = announced_by(13, list(keys), 23)
            expected = [0, 1, SMALL_DECK.index(announced[1])] if announced[1] in SMALL_DECK else [0, 2]
            self.tells(SMALL, [(audit_opening(0, list(keys), [13, 2, 2, 2], announced), expected),
                               (audit_opening(0, [3, 10], [13, 2, 2, 2], announced), [0, 0, 0])])

    def test_every_prime(self):
        for prime in PRIMES:
            deck = cards_of(prime)[-3:]
            keys = [(prime - 1) // 2 - 1, 2]
            text = table_text(prime, deck, keys)
            dealt = ask([load_table(text), deal([2, 0, 1, 2, 0, 1])])[1][1:]
            self.tells(text, [(audit_opening(0, keys, dealt, announced_by(dealt[0], keys, prime)), [0, 1, 1])])


class AuditOfAWrongOpening(CallCase):

    def test_written_out(self):
        cards = [3, 6, 9, 18]
        self.tells(SMALL, [
            (audit_opening(0, [3, 10], cards, [12, 3]), [0, 0, 1]),
            (audit_opening(0, [3, 10], cards, [2, 2]), [0, 0, 0]),
            (audit_opening(0, [3, 10], cards, [2, 12]), [0, 0, 0]),
            (audit_opening(1, [3, 10], cards, [12, 2]), [0, 0, 0]),
            (audit_opening(0, [3, 9], cards, [12, 2]), [0, 0, 1]),
            (audit_opening(0, [4, 10], cards, [12, 2]), [0, 0, 0]),
            # the opened card is right, but the way to it isn't
            (audit_opening(0, [3, 10], cards, [8, 2]), [0, 0, 0]),
            (audit_opening(0, [10, 3], cards, [12, 2]), [0, 0, 0])])

    def test_a_wrong_last_card_is_told_whether_or_not_it_is_in_the_deck(self):
        cards = [3, 6, 9, 18]
        for last in cards_of(23):
            self.tells(SMALL, [(audit_opening(0, [3, 10], cards, [12, last]), [0, 1, 0] if last == 2 else [0, 0, 1])])

    def test_the_first_wrong_player_is_told(self):
        for wrong in itertools.product([False, True], repeat=4):
            before = 2
            announced = []
            for key, is_wrong in zip(FULL_KEYS, wrong):
                right = opened(before, [key], 47)
                before = [card for card in cards_of(47) if card != right][0] if is_wrong else right
                announced.append(before)
            expected = [0, 0, wrong.index(True)] if True in wrong else [0, 1, FULL_DECK.index(announced[3])]
            if True not in wrong:
                self.assertIn(announced[3], FULL_DECK)
            self.tells(FULL, [(audit_opening(0, FULL_KEYS, FULL_DECK, announced), expected)])

    def test_later_players_start_from_the_card_that_was_announced(self):
        # a true way of the later players behind a wrong card of each player
        for player in range(4):
            right = announced_by(2, FULL_KEYS, 47)
            other = [card for card in cards_of(47) if card != right[player]][0]
            announced = right[:player] + [other] + announced_by(other, FULL_KEYS[player + 1:], 47)
            self.tells(FULL, [(audit_opening(0, FULL_KEYS, FULL_DECK, announced), [0, 0, player])])

    def test_every_announcement_of_two_players(self):
        pairs = []
        for first, second, card, one, other in itertools.product(cards_of(11), cards_of(11), cards_of(11),
                                                                 keys_of(11), keys_of(11)):
            expected = [0, 2]
            if second in (4, 3):
                expected = [0, 1, [4, 3].index(second)]
            if pow(second, other, 11) != first:
                expected = [0, 0, 1]
            if pow(first, one, 11) != card:
                expected = [0, 0, 0]
            pairs.append((audit_opening(1, [one, other], [9, card], [first, second]), expected))
        self.tells("prime 11; deck 4 3; player a key 1; player b key 2;", pairs)


class WrongArguments(CallCase):

    CARDS = [3, 6, 9, 18]

    def test_wrong_positions(self):
        self.refused(SMALL, [audit_opening(position, [3, 10], self.CARDS, [12, 2]) for position in not_positions(4)])
        self.refused(BARE, [audit_opening(position, [], [4, 3], []) for position in not_positions(2)])
        self.refused(FULL, [audit_opening(position, FULL_KEYS, FULL_DECK, FULL_DECK[:4])
                            for position in not_positions(10)])

    def test_wrong_revealed(self):
        self.refused(SMALL, [audit_opening(0, keys, self.CARDS, [12, 2]) for keys in not_key_lists([3, 10], 23)])
        self.refused(BARE, [audit_opening(0, keys, [4, 3], []) for keys in not_key_lists([], 11)])
        self.refused(FULL, [audit_opening(0, keys, FULL_DECK, FULL_DECK[:4]) for keys in not_key_lists(FULL_KEYS, 47)])

    def test_wrong_cards(self):
        self.refused(SMALL, [audit_opening(0, [3, 10], cards, [12, 2]) for cards in not_card_lists(self.CARDS, 23)])
        self.refused(BARE, [audit_opening(0, [], cards, []) for cards in not_card_lists(BARE_DECK, 11)])
        self.refused(FULL, [audit_opening(0, FULL_KEYS, cards, FULL_DECK[:4])
                            for cards in not_card_lists(FULL_DECK, 47)])

    def test_wrong_announced(self):
        self.refused(SMALL, [audit_opening(0, [3, 10], self.CARDS, cards) for cards in not_card_lists([12, 2], 23)])
        self.refused(BARE, [audit_opening(0, [], [4, 3], cards) for cards in not_card_lists([], 11)])
        self.refused(FULL, [audit_opening(0, FULL_KEYS, FULL_DECK, cards)
                            for cards in not_card_lists(FULL_DECK[:4], 47)])

    def test_as_many_announced_cards_as_keys_but_not_as_players(self):
        self.refused(SMALL, [audit_opening(0, [], self.CARDS, []), audit_opening(0, [3], self.CARDS, [12]),
                             audit_opening(0, [3, 10, 1], self.CARDS, [12, 2, 2])])
        self.refused(BARE, [audit_opening(0, [1], [4, 3], [4])])

    def test_wrong_arguments_behind_a_wrong_card(self):
        # the audit would end with the first player, but the arguments are looked at first
        self.refused(SMALL, [audit_opening(0, [3, key], self.CARDS, [2, 2]) for key in not_keys(23)])
        self.refused(SMALL, [audit_opening(0, [3, 10], self.CARDS, [2, card]) for card in (0, 1, 5, LEAST, GREATEST)])

    def test_numbers_at_the_limits(self):
        self.refused(SMALL, [audit_opening(LEAST, [GREATEST] * 60, [LEAST] * 60, [GREATEST] * 60),
                             audit_opening(GREATEST, [], [], [])])


if __name__ == "__main__":
    unittest.main()
