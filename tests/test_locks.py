"""lock, unlock, inverse_key, joint_key and check_lock."""

import unittest

from helper import (GREATEST, LEAST, PRIMES, SMALL, ask, ask_many, cards_of, check_lock, inverse_key, joint_key,
                    keys_of, load_table, lock, not_cards, not_keys, smallest_table, unlock)


class LockCase(unittest.TestCase):

    def tell(self, prime, calls):
        return ask_many(load_table(smallest_table(prime)), calls)

    def all_refused(self, prime, calls):
        for call, answer in zip(calls, self.tell(prime, calls)):
            self.assertEqual(answer, [-1], (prime, call))


class Lock(LockCase):

    def test_written_out(self):
        told = ask([load_table(SMALL), lock(2, 3), lock(2, 5), lock(3, 10), lock(18, 1), lock(13, 2)])
        self.assertEqual(told[1:], [[0, 8], [0, 9], [0, 8], [0, 18], [0, 8]])

    def test_a_card_need_not_be_in_the_deck(self):
        self.assertEqual(ask([load_table("prime 23; deck 2 3;"), lock(16, 2)])[1], [0, 3])

    def test_every_card_and_key_of_small_primes(self):
        for prime in (11, 23, 47):
            pairs = [(card, key) for card in cards_of(prime) for key in keys_of(prime)]
            told = self.tell(prime, [lock(card, key) for card, key in pairs])
            self.assertEqual(told, [[0, pow(card, key, prime)] for card, key in pairs])

    def test_smallest_and_largest_card_and_key_of_every_prime(self):
        for prime in PRIMES:
            cards = cards_of(prime)
            pairs = [(card, key) for card in (cards[0], cards[1], cards[-1])
                     for key in (1, 2, 3, (prime - 1) // 2 - 2, (prime - 1) // 2 - 1)]
            told = self.tell(prime, [lock(card, key) for card, key in pairs])
            self.assertEqual(told, [[0, pow(card, key, prime)] for card, key in pairs])

    def test_a_locked_card_is_a_card(self):
        for prime in (11, 23, 59):
            cards = cards_of(prime)
            for key in keys_of(prime):
                told = self.tell(prime, [lock(card, key) for card in cards])
                self.assertEqual(sorted([answer[1] for answer in told]), cards)

    def test_wrong_cards_and_keys(self):
        for prime in (11, 23, 983):
            card = cards_of(prime)[0]
            self.all_refused(prime, [lock(number, 1) for number in not_cards(prime)])
            self.all_refused(prime, [lock(card, number) for number in not_keys(prime)])
            self.all_refused(prime, [lock(1, 0), lock(0, 1), lock(LEAST, GREATEST)])


class Unlock(LockCase):

    def test_written_out(self):
        told = ask([load_table(SMALL), unlock(8, 3), unlock(9, 5), unlock(8, 10), unlock(18, 1), unlock(2, 2)])
        self.assertEqual(told[1:], [[0, 2], [0, 2], [0, 3], [0, 18], [0, 18]])

    def test_takes_off_what_lock_put_on(self):
        for prime in (11, 23, 47):
            pairs = [(card, key) for card in cards_of(prime) for key in keys_of(prime)]
            told = self.tell(prime, [unlock(pow(card, key, prime), key) for card, key in pairs])
            self.assertEqual(told, [[0, card] for card, key in pairs])

    def test_lock_puts_on_what_unlock_took_off(self):
        for prime in (11, 23):
            pairs = [(card, key) for card in cards_of(prime) for key in keys_of(prime)]
            told = self.tell(prime, [unlock(card, key) for card, key in pairs])
            back = self.tell(prime, [lock(answer[1], pair[1]) for answer, pair in zip(told, pairs)])
            self.assertEqual(back, [[0, card] for card, key in pairs])

    def test_smallest_and_largest_card_and_key_of_every_prime(self):
        for prime in PRIMES:
            cards = cards_of(prime)
            pairs = [(card, key) for card in (cards[0], cards[-1])
                     for key in (1, 2, (prime - 1) // 2 - 2, (prime - 1) // 2 - 1)]
            told = self.tell(prime, [unlock(pow(card, key, prime), key) for card, key in pairs])
            self.assertEqual(told, [[0, card] for card, key in pairs])

    def test_wrong_cards_and_keys(self):
        for prime in (11, 23, 983):
            card = cards_of(prime)[0]
            self.all_refused(prime, [unlock(number, 1) for number in not_cards(prime)])
            self.all_refused(prime, [unlock(card, number) for number in not_keys(prime)])
            self.all_refused(prime, [unlock(1, 0), unlock(0, 1), unlock(LEAST, GREATEST)])


class AnyOrder(LockCase):

    def put_on(self, prime, card, keys):
        for key in keys:
            card = self.tell(prime, [lock(card, key)])[0][1]
        return card

    def take_off(self, prime, card, keys):
        for key in keys:
            card = self.tell(prime, [unlock(card, key)])[0][1]
        return card

    def test_two_locks_in_either_order(self):
        for card in cards_of(11):
            for one in keys_of(11):
                for other in keys_of(11):
                    both = self.put_on(11, card, [one, other])
                    self.assertEqual(both, self.put_on(11, card, [other, one]))
                    self.assertEqual(self.take_off(11, both, [one, other]), card)
                    self.assertEqual(self.take_off(11, both, [other, one]), card)
                    self.assertEqual(self.take_off(11, both, [one]), self.put_on(11, card, [other]))

    def test_several_locks_are_one_with_the_joint_key(self):
        for prime, keys in ((23, [3, 10, 7]), (47, [22, 5, 5, 13]), (983, [490, 2, 77, 311])):
            joint = self.tell(prime, [joint_key(keys)])[0][1]
            inverses = [answer[1] for answer in self.tell(prime, [inverse_key(key) for key in keys])]
            for card in cards_of(prime)[:3]:
                locked = self.put_on(prime, card, keys)
                self.assertEqual(locked, self.put_on(prime, card, keys[::-1]))
                self.assertEqual(locked, self.put_on(prime, card, [joint]))
                self.assertEqual(self.take_off(prime, locked, [joint]), card)
                self.assertEqual(self.take_off(prime, locked, keys[1:] + keys[:1]), card)
                self.assertEqual(self.put_on(prime, locked, inverses), card)


class InverseKey(LockCase):

    def test_written_out(self):
        told = ask([load_table(SMALL)] + [inverse_key(key) for key in range(1, 11)])
        self.assertEqual(told[1:], [[0, key] for key in [1, 6, 4, 3, 9, 2, 8, 7, 5, 10]])

    def test_every_key_of_every_prime(self):
        for prime in PRIMES:
            q = (prime - 1) // 2
            for key, answer in zip(keys_of(prime), self.tell(prime, [inverse_key(key) for key in keys_of(prime)])):
                self.assertEqual(len(answer), 2)
                self.assertEqual(answer[0], 0)
                self.assertTrue(1 <= answer[1] <= q - 1)
                self.assertEqual(key * answer[1] % q, 1, (prime, key))

    def test_wrong_keys(self):
        for prime in (11, 23, 983):
            self.all_refused(prime, [inverse_key(number) for number in not_keys(prime)])


class JointKey(LockCase):

    def test_written_out(self):
        told = ask([load_table(SMALL), joint_key([]), joint_key([7]), joint_key([3, 10]), joint_key([3, 4]),
                    joint_key([10, 10]), joint_key([2, 3, 5, 7]), joint_key([5, 5, 5])])
        self.assertEqual(told[1:], [[0, 1], [0, 7], [0, 8], [0, 1], [0, 1], [0, 1], [0, 4]])

    def test_no_keys_of_every_prime(self):
        for prime in PRIMES:
            self.assertEqual(self.tell(prime, [joint_key([])]), [[0, 1]])

    def test_up_to_twenty_keys(self):
        for prime in (11, 23, 983):
            q = (prime - 1) // 2
            for count in range(21):
                keys = [(7 * turn + count) % (q - 1) + 1 for turn in range(count)]
                product = 1
                for key in keys:
                    product = product * key
                self.assertEqual(self.tell(prime, [joint_key(keys)]), [[0, product % q]], keys)
        self.assertEqual(self.tell(983, [joint_key([490] * 20), joint_key([490] * 19)]), [[0, 1], [0, 490]])

    def test_more_than_twenty_keys(self):
        for prime in (11, 23, 983):
            self.all_refused(prime, [joint_key([1] * count) for count in (21, 22, 40, 59, 60)])

    def test_wrong_keys(self):
        for prime in (11, 23, 983):
            for number in not_keys(prime):
                self.all_refused(prime, [joint_key([number]), joint_key([number, 1]), joint_key([1, number]),
                                         joint_key([1, number, 2]), joint_key([1] * 19 + [number]),
                                         joint_key([number] * 20), joint_key([number] * 21)])


class CheckLock(LockCase):

    def test_written_out(self):
        told = ask([load_table(SMALL), check_lock(2, 8, 3), check_lock(8, 2, 3), check_lock(2, 9, 5),
                    check_lock(9, 2, 5), check_lock(2, 2, 1), check_lock(2, 3, 1), check_lock(8, 2, 4)])
        self.assertEqual(told[1:], [[0, 1], [0, 0], [0, 1], [0, 0], [0, 1], [0, 0], [0, 1]])

    def test_every_two_cards_and_key_of_small_primes(self):
        for prime in (11, 23):
            cards = cards_of(prime)
            triples = [(one, other, key) for one in cards for other in cards for key in keys_of(prime)]
            told = self.tell(prime, [check_lock(one, other, key) for one, other, key in triples])
            self.assertEqual(told, [[0, 1 if pow(one, key, prime) == other else 0] for one, other, key in triples])

    def test_largest_prime(self):
        card = cards_of(983)[-1]
        locked = pow(card, 490, 983)
        self.assertEqual(self.tell(983, [check_lock(card, locked, 490), check_lock(card, locked, 489)]),
                         [[0, 1], [0, 0]])

    def test_wrong_cards_and_keys(self):
        for prime in (11, 23, 983):
            card = cards_of(prime)[0]
            self.all_refused(prime, [check_lock(number, card, 1) for number in not_cards(prime)])
            self.all_refused(prime, [check_lock(card, number, 1) for number in not_cards(prime)])
            self.all_refused(prime, [check_lock(number, number, 1) for number in not_cards(prime)])
            self.all_refused(prime, [check_lock(card, card, number) for number in not_keys(prime)])


if __name__ == "__main__":
    unittest.main()
