"""Texts handed to load_table and check_table: what is valid, and which error is told where."""

import unittest

from helper import (GREATEST, LEAST, PRIMES, SMALL, SMALL_CANONICAL, ask, ask_many, bytes_of, cards_of,
                    check_table, load_table, print_table, smallest_table, status)

KEYWORDS = ["prime", "deck", "player", "key"]
WORDS = ["a", "z", "zebra", "abcdefgh"]
NUMBERS = ["0", "7", "22", "999"]
INVALID = ["abcdefghi", "primeprime", "1000", "1234567", "00", "01", "012", "007", "0023",
           "A", "Prime", "-", "-3", "+3", ".", ",", ":", "_", "\t", "\r", "\0", "\x7f", "\x80", "\xff", "/", "`", "{"]


class TextCase(unittest.TestCase):

    def tells(self, text, expected):
        """Both calls tell the same of a text, but for the fields of a valid one."""
        loaded, checked = ask([load_table(text), check_table(text)])
        self.assertEqual(loaded, expected, text)
        self.assertEqual(checked, [0] if expected[0] == 0 else expected, text)

    def invalid(self, text, code, offset):
        self.tells(text, [1, code, offset])

    def invalid_at(self, text, code, mark="^"):
        """The offset is where the mark stands; the mark is not part of the text."""
        self.invalid(text.replace(mark, ""), code, text.index(mark))


class ValidTexts(TextCase):

    def test_fields_of_load_table(self):
        self.tells("prime 11; deck 3 4;", [0, 11, 2, 0])
        self.tells("prime 11; deck 9 5 4 3;", [0, 11, 4, 0])
        self.tells(SMALL, [0, 23, 4, 2])

    def test_white_space_of_both_kinds_anywhere_between_tokens(self):
        self.tells("\n prime\n\n23 \n ;\ndeck\n2  3\n;  player  a\n key \n 1 ; \n ", [0, 23, 2, 1])

    def test_white_space_is_needed_only_where_tokens_would_run_together(self):
        self.tells("prime23;deck2 3;player a key10;player b key1;", [0, 23, 2, 2])
        self.tells("prime 23;deck 2\n3;", [0, 23, 2, 0])
        self.invalid_at("prime23;deck^23;", 4)
        self.invalid_at("prime23;deck2 3;^playera key 1;", 1)
        self.invalid_at("prime23;deck2 3;player akey^1;", 1)

    def test_fewest_and_most_cards(self):
        cards = [str(card) for card in cards_of(47)]
        for count in range(2, 11):
            self.tells("prime 47; deck " + " ".join(cards[:count]) + ";", [0, 47, count, 0])
        self.invalid_at("prime 47; deck ^;", 1)
        self.invalid_at("prime 47; deck 2 ^;", 1)
        self.invalid_at("prime 47; deck " + " ".join(cards[:10]) + " ^" + cards[10] + ";", 3)

    def test_fewest_and_most_players(self):
        head = "prime 23; deck 2 3;"
        players = [" player " + name + " key 5;" for name in ["a", "b", "c", "d"]]
        for count in range(5):
            self.tells(head + "".join(players[:count]), [0, 23, 2, count])
        self.invalid_at(head + "".join(players) + " player ^e key 5;", 3)

    def test_names(self):
        for name in WORDS + ["primes", "prim", "decks", "dec", "players", "playe", "keys", "ke", "k"]:
            self.tells("prime 23; deck 2 3; player " + name + " key 1;", [0, 23, 2, 1])

    def test_players_may_have_the_same_key(self):
        self.tells("prime 23; deck 2 3; player a key 4; player b key 4;", [0, 23, 2, 2])


class EachTokenInItsPlace(TextCase):

    # a text with all that the grammar has, token by token, and which kinds may stand in each place
    TOKENS = [("prime", "prime"), ("23", "number"), (";", ";"),
              ("deck", "deck"), ("2", "number"), ("3", "number"), ("4", "number ;"), (";", "number ;"),
              ("player", "player"), ("ann", "name"), ("key", "key"), ("5", "number"), (";", ";"),
              ("player", "player"), ("bob", "name"), ("key", "key"), ("6", "number"), (";", ";")]
    # behind these many tokens the text may end
    ENDS = [8, 13, 18]

    def kind_of(self, token):
        if token in KEYWORDS or token == ";":
            return token
        if token in WORDS:
            return "name"
        if token in NUMBERS:
            return "number"
        return "invalid"

    def test_a_token_that_is_not_allowed(self):
        for place in range(len(self.TOKENS)):
            before = " ".join([token for token, kinds in self.TOKENS[:place]])
            after = " ".join([token for token, kinds in self.TOKENS[place + 1:]])
            offset = len(before) + 1
            for token in KEYWORDS + WORDS + NUMBERS + [";"] + INVALID:
                if self.kind_of(token) not in self.TOKENS[place][1].split():
                    self.invalid(before + " " + token + " " + after, 1, offset)
                    self.invalid(before + "\n" + token, 1, offset)

    def test_a_text_that_ends_too_early(self):
        for count in range(len(self.TOKENS) + 1):
            text = " ".join([token for token, kinds in self.TOKENS[:count]])
            for end in ["", " ", "\n", " \n \n"]:
                if count in self.ENDS:
                    self.assertEqual(ask([check_table(text + end)]), [[0]])
                else:
                    self.invalid(text + end, 1, len(text + end))

    def test_the_empty_text_and_white_space_alone(self):
        self.invalid("", 1, 0)
        self.invalid(" ", 1, 1)
        self.invalid("\n", 1, 1)
        self.invalid(" \n \n ", 1, 5)
        self.invalid(" " * 800, 1, 800)

    def test_a_keyword_as_a_name(self):
        for word in KEYWORDS:
            self.invalid_at("prime 23; deck 2 3; player ^" + word + " key 5;", 1)

    def test_a_second_prime_or_deck(self):
        self.invalid_at("prime 23; ^prime 23; deck 2 3;", 1)
        self.invalid_at("prime 23; deck 2 3; ^deck 2 3;", 1)
        self.invalid_at("^deck 2 3; prime 23;", 1)
        self.invalid_at("prime 23; deck 2 3;^;", 1)


class EachByte(TextCase):

    def test_every_byte_between_two_tokens(self):
        before = bytes_of("prime 23; deck 2 3;")
        after = bytes_of("player a key 5;")
        texts = [before + [byte] + after for byte in range(256)]
        for byte, answer in enumerate(ask_many(load_table(SMALL), [check_table(text) for text in texts])):
            expected = [0] if byte in (10, 32) else [1, 1, len(before)]
            self.assertEqual(answer, expected, byte)

    def test_every_byte_at_the_end(self):
        before = bytes_of("prime 23; deck 2 3; player a key 5;")
        texts = [before + [byte] for byte in range(256)]
        for byte, answer in enumerate(ask_many(load_table(SMALL), [check_table(text) for text in texts])):
            expected = [0] if byte in (10, 32) else [1, 1, len(before)]
            self.assertEqual(answer, expected, byte)

    def test_every_byte_within_a_word(self):
        before = bytes_of("prime 23; deck 2 3; player a")
        after = bytes_of("b key 5;")
        texts = [before + [byte] + after for byte in range(256)]
        for byte, answer in enumerate(ask_many(load_table(SMALL), [check_table(text) for text in texts])):
            expected = [1, 1, len(before)]
            if byte in (10, 32):
                expected = [1, 1, len(before) + 1]
            if 97 <= byte <= 122:
                expected = [0]
            self.assertEqual(answer, expected, byte)

    def test_every_byte_within_a_number(self):
        before = bytes_of("prime 23; deck 2 1")
        after = bytes_of(";")
        texts = [before + [byte] + after for byte in range(256)]
        for byte, answer in enumerate(ask_many(load_table(SMALL), [check_table(text) for text in texts])):
            # 1 itself is a number but no card, so it is what's wrong wherever it ends there
            expected = [1, 4, len(before) - 1]
            if 48 <= byte <= 57 and 10 + byte - 48 in cards_of(23):
                expected = [0]
            self.assertEqual(answer, expected, byte)

    def test_numbers_that_are_no_bytes(self):
        valid = bytes_of(SMALL)
        for number in (-1, 256, 257, 256 + 32, 32 - 256, LEAST, GREATEST):
            for text in ([number], [number] + valid, valid + [number], valid[:7] + [number] + valid[7:],
                         bytes_of("?") + [number], bytes_of("prime 12 ") + [number]):
                self.tells(text, [-1])
        self.invalid([0] + valid, 1, 0)
        self.invalid(valid + [255], 1, len(valid))

    def test_the_length_of_a_text(self):
        for filling in [" ", "\n"]:
            self.tells(SMALL + filling * (800 - len(SMALL)), [0, 23, 4, 2])
            self.tells(filling * (800 - len(SMALL)) + SMALL, [0, 23, 4, 2])
            self.tells(SMALL + filling * (801 - len(SMALL)), [-1])
            self.tells(SMALL + filling * (900 - len(SMALL)), [-1])
        self.invalid("x" * 800, 1, 0)
        self.invalid(" " * 799 + "?", 1, 799)
        self.tells("x" * 801, [-1])
        self.tells("9" * 900, [-1])
        self.tells(" " * 801, [-1])


class Code3(TextCase):

    def test_a_card_occurs_twice(self):
        self.invalid_at("prime 23; deck 2 ^2;", 3)
        self.invalid_at("prime 23; deck 2 3 4 ^2;", 3)
        self.invalid_at("prime 23; deck 2 3 ^3 4;", 3)
        self.invalid_at("prime 23; deck 2 3 4 6 8 9 12 13 16 18 ^18;", 3)

    def test_an_eleventh_card(self):
        deck = "prime 47; deck 2 3 4 6 7 8 9 12 14 16"
        self.invalid_at(deck + " ^17;", 3)
        self.invalid_at(deck + " ^17 5 ?", 3)
        self.invalid_at(deck + " ^2;", 3)
        self.invalid_at(deck + " ^5;", 4)
        self.invalid_at(deck + " ^0;", 4)
        self.invalid_at(deck + " ^017;", 1)
        self.invalid_at(deck + " ^a;", 1)
        self.invalid(deck + " ", 1, len(deck) + 1)

    def test_a_name_that_is_used(self):
        head = "prime 23; deck 2 3; player ann key 5; player bob key 6;"
        self.invalid_at(head + " player ^ann key 7;", 3)
        self.invalid_at(head + " player ^bob key 7;", 3)
        self.invalid_at(head + " player ^bob", 3)
        self.invalid_at(head + " player ^bob key 0;", 3)
        self.tells(head + " player bobb key 7; player an key 7;", [0, 23, 2, 4])

    def test_the_name_of_a_fifth_player(self):
        head = "prime 23; deck 2 3; player a key 5; player b key 6; player c key 6; player d key 7;"
        self.invalid_at(head + " player ^e key 5;", 3)
        self.invalid_at(head + " player ^a key 5;", 3)
        self.invalid_at(head + " player ^e", 3)
        self.invalid_at(head + " player ^key key 5;", 1)
        self.invalid_at(head + " player ^5", 1)
        self.invalid_at(head + " player ^abcdefghi", 1)
        self.invalid_at(head + " ^e", 1)
        self.invalid_at(head + " player ^", 1)


class Code4(TextCase):

    def test_every_number_as_the_prime(self):
        texts = ["prime " + str(number) + "; deck" for number in range(1000)]
        for number, answer in enumerate(ask_many(load_table(SMALL), [check_table(text) for text in texts])):
            expected = [1, 1, len(texts[number])] if number in PRIMES else [1, 4, 6]
            self.assertEqual(answer, expected, number)

    def test_every_prime_can_be_loaded(self):
        for prime in PRIMES:
            self.tells(smallest_table(prime), [0, prime, 2, 0])

    def test_neighbours_of_the_smallest_and_largest_prime(self):
        for number in (0, 1, 2, 3, 5, 7, 10, 12, 13, 982, 984, 991, 997, 999):
            self.invalid_at("prime ^" + str(number) + "; deck 3 4;", 4)

    def test_every_number_as_a_card(self):
        for prime, other in ((11, 3), (23, 2), (983, 4)):
            cards = cards_of(prime)
            head = "prime " + str(prime) + "; deck "
            texts = [head + str(number) + " " + str(other) + ";" for number in range(1000)]
            for number, answer in enumerate(ask_many(load_table(SMALL), [check_table(text) for text in texts])):
                expected = [0] if number in cards else [1, 4, len(head)]
                if number == other:
                    expected = [1, 3, len(head) + len(str(number)) + 1]
                self.assertEqual(answer, expected, (prime, number))

    def test_every_number_as_a_key(self):
        for prime in (11, 23, 983):
            head = smallest_table(prime) + " player a key "
            texts = [head + str(number) + ";" for number in range(1000)]
            for number, answer in enumerate(ask_many(load_table(SMALL), [check_table(text) for text in texts])):
                expected = [0] if 1 <= number <= (prime - 1) // 2 - 1 else [1, 4, len(head)]
                self.assertEqual(answer, expected, (prime, number))

    def test_a_wrong_number_in_later_places(self):
        self.invalid_at("prime 23; deck 2 ^5;", 4)
        self.invalid_at("prime 23; deck 2 3 4 6 8 9 12 13 16 ^17;", 4)
        self.invalid_at("prime 23; deck 2 3; player a key 5; player b key ^11;", 4)


class TheFirstErrorIsTold(TextCase):

    def test_the_leftmost_of_several_errors(self):
        self.invalid_at("prime ^12 ? deck 2 2;", 4)
        self.invalid_at("prime ^0", 4)
        self.invalid_at("prime 23 ^? deck 2 2;", 1)
        self.invalid_at("prime 23; deck 2 ^2 5;", 3)
        self.invalid_at("prime 23; deck ^5 5;", 4)
        self.invalid_at("prime 23; deck 2 ^2 ?", 3)
        self.invalid_at("prime 23; deck 2 ^? 2", 1)
        self.invalid_at("prime 23; deck ^5", 4)
        self.invalid_at("prime 23; deck 2 ^2", 3)
        self.invalid_at("prime 23; deck 2 3; player a key ^0 ?", 4)
        self.invalid_at("prime 23; deck 2 3; player a ^? key 0", 1)
        self.invalid_at("prime 23; deck 2 3; player a key 1; player ^a key 0", 3)

    def test_an_invalid_token_is_told_at_its_first_byte(self):
        self.invalid_at("prime 23; deck 2 3; player ^abcdefghijklmnopq key 1;", 1)
        self.invalid_at("prime ^0023;", 1)
        self.invalid_at("prime ^1023;", 1)
        self.invalid_at("^primedeck 23;", 1)
        self.invalid_at("^Prime 23;", 1)
        self.invalid_at("^priMe 23;", 1)
        self.invalid_at("prime 23; deck 2 3; player ab^C key 1;", 1)


class WhatATextChanges(TextCase):

    REFUSED = ["", "prime", "prime 47; deck 2 2;", "prime 47; deck 2 3; player a key 23;",
               "prime 47; deck 2 3; player a key 2; player a key 3;", "prime 47; deck 2 3; ?",
               " " * 801, [-1], [256], bytes_of("prime 47; deck 2 3;") + [256]]

    def test_a_refused_text_changes_nothing(self):
        for text in self.REFUSED:
            for refuse in (load_table, check_table):
                told = ask([load_table(SMALL), refuse(text), print_table(), status()])
                self.assertNotEqual(told[1][0], 0)
                self.assertEqual(told[2], [0] + bytes_of(SMALL_CANONICAL))
                self.assertEqual(told[3], [0, 23, 11, 4, 2])

    def test_a_refused_text_sets_no_table(self):
        for text in self.REFUSED:
            for refuse in (load_table, check_table):
                self.assertEqual(ask([refuse(text), status(), print_table()])[1:], [[-20], [-20]])

    def test_check_table_sets_no_table(self):
        self.assertEqual(ask([check_table(SMALL), status(), print_table()]), [[0], [-20], [-20]])
        told = ask([load_table(SMALL), check_table("prime 47; deck 2 3;"), status(), print_table()])
        self.assertEqual(told[1:], [[0], [0, 23, 11, 4, 2], [0] + bytes_of(SMALL_CANONICAL)])

    def test_a_valid_text_replaces_the_table(self):
        told = ask([load_table(SMALL), load_table("prime 47; deck 9 2 3;"), print_table(), status()])
        self.assertEqual(told[1:], [[0, 47, 3, 0], [0] + bytes_of("prime 47;\ndeck 9 2 3;\n"), [0, 47, 23, 3, 0]])
        told = ask([load_table("prime 47; deck 9 2 3; player z key 22;"), load_table(SMALL), print_table()])
        self.assertEqual(told[1:], [[0, 23, 4, 2], [0] + bytes_of(SMALL_CANONICAL)])

    def test_a_name_of_the_earlier_table_is_free_again(self):
        told = ask([load_table(SMALL), load_table(SMALL), print_table()])
        self.assertEqual(told[1:], [[0, 23, 4, 2], [0] + bytes_of(SMALL_CANONICAL)])


if __name__ == "__main__":
    unittest.main()
