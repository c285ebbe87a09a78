"""What print_table, status and all_cards tell of the table."""

import unittest

from helper import (PRIMES, SMALL, SMALL_CANONICAL, all_cards, ask, bytes_of, cards_of, load_table, print_table,
                    smallest_table, status)


class PrintTable(unittest.TestCase):

    def prints(self, text, canonical):
        printed = [0] + bytes_of(canonical)
        self.assertEqual(ask([load_table(text), print_table()])[1], printed)
        # the canonical text is itself a valid text, and its own canonical text
        loaded, again = ask([load_table(canonical), print_table()])
        self.assertEqual(loaded[0], 0)
        self.assertEqual(again, printed)

    def test_without_players(self):
        self.prints("prime 11; deck 3 4;", "prime 11;\ndeck 3 4;\n")

    def test_with_players(self):
        self.prints(SMALL, SMALL_CANONICAL)

    def test_white_space_of_the_text_is_not_kept(self):
        self.prints("\n\nprime23 ;deck 2\n3   4 6;player\nann key3 ;\n player bob key\n\n10 ; \n", SMALL_CANONICAL)

    def test_cards_and_players_keep_their_order(self):
        self.prints("prime 23; deck 18 2 13 3; player z key 9; player a key 1; player m key 5;",
                    "prime 23;\ndeck 18 2 13 3;\nplayer z key 9;\nplayer a key 1;\nplayer m key 5;\n")

    def test_names_of_every_letter_and_of_one_and_eight_letters(self):
        names = ["abcdefgh", "ijklmnop", "qrstuvwx", "yz"]
        lines = "".join(["player " + name + " key 7;\n" for name in names])
        self.prints("prime 23; deck 2 3;" + lines, "prime 23;\ndeck 2 3;\n" + lines)
        self.prints("prime 23; deck 2 3; player a key 1;", "prime 23;\ndeck 2 3;\nplayer a key 1;\n")

    def test_the_longest_canonical_text(self):
        deck = " ".join([str(card) for card in cards_of(983)[-10:]])
        lines = "".join(["player abcdefg" + end + " key 49" + end_key + ";\n"
                         for end, end_key in [("w", "0"), ("x", "0"), ("y", "0"), ("z", "0")]])
        canonical = "prime 983;\ndeck " + deck + ";\n" + lines
        self.prints(canonical.replace("\n", "\n\n "), canonical)

    def test_printing_changes_nothing(self):
        told = ask([load_table(SMALL), print_table(), print_table(), status(), all_cards(), print_table()])
        self.assertEqual(told[1], told[2])
        self.assertEqual(told[1], told[5])


class Status(unittest.TestCase):

    def test_of_some_tables(self):
        self.assertEqual(ask([load_table(SMALL), status()])[1], [0, 23, 11, 4, 2])
        self.assertEqual(ask([load_table("prime 11; deck 3 4 5;"), status()])[1], [0, 11, 5, 3, 0])
        full = "prime 47; deck 2 3 4 6 7 8 9 12 14 16;" + "".join([" player " + name + " key 22;" for name in "abcd"])
        self.assertEqual(ask([load_table(full), status()])[1], [0, 47, 23, 10, 4])

    def test_of_every_prime(self):
        for prime in PRIMES:
            self.assertEqual(ask([load_table(smallest_table(prime)), status()])[1],
                             [0, prime, (prime - 1) // 2, 2, 0])


class AllCards(unittest.TestCase):

    def test_written_out(self):
        self.assertEqual(ask([load_table("prime 11; deck 3 4;"), all_cards()])[1], [0, 4, 3, 4, 5, 9])
        self.assertEqual(ask([load_table(SMALL), all_cards()])[1], [0, 10, 2, 3, 4, 6, 8, 9, 12, 13, 16, 18])

    def test_of_every_prime(self):
        for prime in PRIMES:
            cards = cards_of(prime)
            self.assertEqual(len(cards), (prime - 1) // 2 - 1)
            self.assertEqual(ask([load_table(smallest_table(prime)), all_cards()])[1], [0, len(cards)] + cards)

    def test_of_the_table_loaded_last(self):
        told = ask([load_table(SMALL), load_table("prime 11; deck 3 4;"), all_cards()])
        self.assertEqual(told[2], [0, 4, 3, 4, 5, 9])


if __name__ == "__main__":
    unittest.main()
