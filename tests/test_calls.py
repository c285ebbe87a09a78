"""The one list of calls: how calls and answers stand in it, refusals and their order, and what is kept."""

import unittest

from cardlocks.audits import answers
from helper import (BARE, FULL, GREATEST, LEAST, SMALL, SMALL_CANONICAL, all_cards, ask, audit_deal, audit_opening,
                    bytes_of, check_lock, check_shuffle, check_symmetry, check_table, clear, deal, inverse_key,
                    joint_key, load_table, lock, open_card, print_table, raise_number, remaining_orders,
                    shuffle_row, status, told, unlock)

# every call that needs a table, with arguments that would be right for the table of SMALL
RIGHT = [print_table(), status(), all_cards(), lock(2, 3), unlock(8, 3), inverse_key(3), joint_key([3, 10]),
         joint_key([]), check_lock(2, 8, 3), shuffle_row(3, [2, 3, 4], [2, 0, 1]),
         check_shuffle(3, [2, 3, 4], [18, 8, 4]), check_shuffle(3, [2, 3, 4], [18, 8, 8]),
         check_symmetry(10, [2, 12]), check_symmetry(10, [2, 3]),
         audit_deal([3, 10], [8, 4, 18, 9, 3, 6, 9, 18]), audit_deal([3, 10], [8, 4, 18, 8, 3, 6, 9, 18]),
         remaining_orders([2, 3, 4], [16, 8, 8], [0, 4, 2, 10]), remaining_orders([2, 3, 4], [16, 8, 8], []),
         deal([3, 0, 2, 1, 0, 1, 2, 3]), open_card(0, [3, 6, 9, 18]),
         audit_opening(0, [3, 10], [3, 6, 9, 18], [12, 2]), audit_opening(0, [3, 10], [3, 6, 9, 18], [2, 2]),
         raise_number(5, 3), raise_number(2, 21)]
# and with arguments that would be wrong for every table
WRONG = [lock(0, 3), lock(2, 0), lock(LEAST, GREATEST), unlock(1, 3), unlock(2, -1), unlock(GREATEST, LEAST),
         inverse_key(0), inverse_key(LEAST), inverse_key(GREATEST), joint_key([0]), joint_key([1] * 21),
         joint_key([GREATEST] * 60), check_lock(0, 2, 3), check_lock(2, 0, 3), check_lock(2, 8, 0),
         check_lock(LEAST, GREATEST, LEAST), shuffle_row(0, [2, 3, 4], [2, 0, 1]), shuffle_row(3, [], []),
         shuffle_row(3, [2, 3, 4], [2, 0, 2]), shuffle_row(LEAST, [GREATEST] * 60, [LEAST] * 60),
         check_shuffle(3, [2, 3, 4], [18, 8]), check_shuffle(3, [2, 2], [8, 8]),
         check_shuffle(GREATEST, [LEAST] * 60, [GREATEST] * 60), check_symmetry(0, [2, 12]), check_symmetry(1, []),
         check_symmetry(LEAST, [GREATEST] * 60), audit_deal([0, 10], [8, 4, 18, 9, 3, 6, 9, 18]),
         audit_deal([3, 10], [1] * 8), audit_deal([LEAST] * 60, [GREATEST] * 60),
         remaining_orders([2, 3, 4], [16, 8, 8], [0]), remaining_orders([2, 3, 4], [16, 8, 8], [3, 1]),
         remaining_orders([], [], []), remaining_orders([LEAST] * 60, [GREATEST] * 60, [LEAST] * 60),
         deal([3, 0, 2, 1, 0, 1, 2, 4]), deal([0]), deal([LEAST, GREATEST] * 30), open_card(-1, [3, 6, 9, 18]),
         open_card(0, []), open_card(0, [1] * 4), open_card(GREATEST, [LEAST] * 60),
         audit_opening(-1, [3, 10], [3, 6, 9, 18], [12, 2]), audit_opening(0, [], [], []),
         audit_opening(LEAST, [GREATEST] * 60, [LEAST] * 60, [GREATEST] * 60), raise_number(0, 3),
         raise_number(5, 0), raise_number(5, 2), raise_number(LEAST, GREATEST), raise_number(GREATEST, LEAST)]


class NumbersInTheList(unittest.TestCase):

    def test_written_out(self):
        text = bytes_of("prime 11; deck 3 4;")
        self.assertEqual(answers([0, 19] + text + [2, 3, 4, 5, 3, 2, 6, 9, 2, 7, 3, 8, 0, 8, 2, 3, 4, 9, 3, 9, 2]),
                         [4, 0, 11, 2, 0]
                         + [21, 0] + bytes_of("prime 11;\ndeck 3 4;\n")
                         + [5, 0, 11, 5, 2, 0]
                         + [6, 0, 4, 3, 4, 5, 9]
                         + [2, 0, 9] + [2, 0, 3] + [2, 0, 2] + [2, 0, 1] + [2, 0, 2] + [2, 0, 1])

    def test_refusals_written_out(self):
        self.assertEqual(answers([3]), [1, -20])
        self.assertEqual(answers([0, 0]), [3, 1, 1, 0])
        self.assertEqual(answers([1, 1, 256]), [1, -1])
        self.assertEqual(answers([1, 1, 63, 3, 5, 1, 2]), [3, 1, 1, 0, 1, -20, 1, -20])
        self.assertEqual(answers([1, 19] + bytes_of("prime 11; deck 3 4;")), [1, 0])

    def test_rows_and_openings_written_out(self):
        text = bytes_of("prime 11; deck 4 3; player a key 3;")
        calls = ([0, 35] + text
                 + [10, 3, 2, 4, 3, 2, 1, 0] + [11, 3, 2, 4, 3, 2, 5, 9] + [11, 3, 2, 4, 3, 2, 5, 5]
                 + [12, 1, 1, 4] + [12, 4, 2, 4, 3] + [12, 2, 2, 4, 3]
                 + [13, 1, 3, 2, 5, 9] + [13, 1, 1, 2, 5, 9]
                 + [14, 2, 4, 3, 2, 5, 9, 2, 1, 3] + [14, 2, 4, 3, 2, 5, 9, 0] + [14, 1, 4, 1, 4, 2, 0, 2]
                 + [15, 2, 1, 0] + [16, 0, 2, 5, 9] + [16, 1, 2, 5, 3]
                 + [17, 1, 1, 3, 2, 5, 9, 1, 4] + [17, 1, 1, 3, 2, 5, 4, 1, 5] + [17, 1, 1, 3, 2, 5, 9, 1, 3]
                 + [18, 2, 3] + [18, 3, 9] + [19] + [3])
        self.assertEqual(answers(calls),
                         [4, 0, 11, 2, 1]
                         + [3, 0, 5, 9] + [4, 0, 1, 1, 0] + [3, 0, 0, 1]
                         + [3, 0, 1, 0] + [4, 0, 1, 1, 0] + [2, 0, 0]
                         + [4, 0, 1, 1, 0] + [4, 0, 0, 0, 2]
                         + [3, 0, 1, 0] + [2, 0, 2] + [2, 0, 0]
                         + [3, 0, 5, 9] + [2, 0, 1] + [1, -6]
                         + [3, 0, 1, 0] + [2, 0, 2] + [3, 0, 0, 0]
                         + [4, 0, 8, 0, 0] + [4, 0, 4, 1, 1] + [1, 0] + [1, -20])

    def test_every_call_stands_where_the_one_before_it_ends(self):
        for first in RIGHT + WRONG:
            for second in (clear(), status(), open_card(0, [3, 6, 9, 18])):
                alone = ask([load_table(SMALL), second])[1]
                self.assertEqual(ask([load_table(SMALL), first, second])[2], alone, first)

    def test_a_list_of_one_call(self):
        self.assertEqual(ask([load_table(SMALL)]), [[0, 23, 4, 2]])
        self.assertEqual(ask([check_table(SMALL)]), [[0]])

    def test_a_list_of_the_most_calls(self):
        answers_told = ask([load_table(SMALL)] + [lock(2, 3), lock(5, 3), print_table(), check_table("?")] * 29
                           + [status()] * 3)
        self.assertEqual(len(answers_told), 120)
        self.assertEqual(answers_told[1:117], [[0, 8], [-1], [0] + bytes_of(SMALL_CANONICAL), [1, 1, 0]] * 29)
        self.assertEqual(answers_told[117:], [[0, 23, 11, 4, 2]] * 3)

    def test_a_list_of_the_most_numbers(self):
        calls = [load_table(SMALL + " " * (900 - len(SMALL)))] * 17 + [load_table(SMALL), status()]
        self.assertEqual(ask(calls), [[-1]] * 17 + [[0, 23, 4, 2], [0, 23, 11, 4, 2]])


class Refusals(unittest.TestCase):

    def test_no_table(self):
        for call in RIGHT:
            self.assertEqual(ask([call]), [[-20]], call)
        self.assertEqual(ask(RIGHT), [[-20]] * len(RIGHT))

    def test_no_table_is_told_ahead_of_a_wrong_argument(self):
        for call in WRONG:
            self.assertEqual(ask([call]), [[-20]], call)
        self.assertEqual(ask(WRONG), [[-20]] * len(WRONG))

    def test_a_wrong_argument_where_there_is_a_table(self):
        self.assertEqual(ask([load_table(SMALL)] + WRONG)[1:], [[-1]] * len(WRONG))

    def test_texts_are_never_refused_for_the_lack_of_a_table(self):
        self.assertEqual(ask([check_table(SMALL), check_table("?"), check_table([256]), load_table("?"),
                              load_table([-1]), load_table(" " * 801), status(), load_table(SMALL)]),
                         [[0], [1, 1, 0], [-1], [1, 1, 0], [-1], [-1], [-20], [0, 23, 4, 2]])

    def test_refused_calls_among_others(self):
        mixed = []
        for right in RIGHT:
            mixed.extend([right] + WRONG)
        alone = ask([load_table(SMALL)] + RIGHT)[1:]
        for start in range(0, len(mixed), 100):
            part = mixed[start:start + 100]
            for call, answer in zip(part, ask([load_table(SMALL)] + part)[1:]):
                self.assertEqual(answer, [-1] if call in WRONG else alone[RIGHT.index(call)], call)

    def test_calls_before_and_behind_a_table(self):
        self.assertEqual(ask([lock(2, 3), load_table(SMALL), lock(2, 3), load_table("prime 11; deck 3 4;"),
                              lock(2, 3), lock(3, 3), load_table("prime 11; deck 3 3;"), lock(3, 3)]),
                         [[-20], [0, 23, 4, 2], [0, 8], [0, 11, 2, 0], [-1], [0, 5], [1, 3, 17], [0, 5]])

    def test_a_refused_call_changes_nothing(self):
        for refused in WRONG:
            after = ask([load_table(SMALL), refused, print_table(), status(), all_cards()])[2:]
            self.assertEqual(after, ask([load_table(SMALL), print_table(), status(), all_cards()])[1:])
        for refused in WRONG + [open_card(0, [2, 2, 2, 2]), load_table("?")]:
            told_after = ask([load_table(SMALL), refused] + RIGHT)[2:]
            self.assertEqual(told_after, ask([load_table(SMALL)] + RIGHT)[1:], refused)

    def test_a_call_that_is_done_changes_nothing_but_load_table_and_clear(self):
        alone = ask([load_table(SMALL)] + RIGHT)[1:]
        for done in RIGHT + [check_table(FULL)]:
            self.assertEqual(ask([load_table(SMALL), done] + RIGHT)[2:], alone, done)


class Clear(unittest.TestCase):

    def test_without_a_table(self):
        self.assertEqual(ask([clear()]), [[0]])
        self.assertEqual(ask([clear(), clear(), status()]), [[0], [0], [-20]])

    def test_behind_it_there_is_no_table(self):
        for text in (BARE, SMALL, FULL):
            self.assertEqual(ask([load_table(text), clear()] + RIGHT + WRONG)[1:],
                             [[0]] + [[-20]] * (len(RIGHT) + len(WRONG)))

    def test_behind_it_a_table_can_be_loaded(self):
        self.assertEqual(ask([load_table(FULL), clear(), load_table(SMALL)] + RIGHT)[2:],
                         ask([load_table(SMALL)] + RIGHT))

    def test_behind_it_a_refused_text_sets_no_table(self):
        self.assertEqual(ask([load_table(SMALL), clear(), load_table("prime 23;"), check_table(SMALL), status()])[1:],
                         [[0], [1, 1, 9], [0], [-20]])

    def test_it_can_be_done_again_and_again(self):
        calls = [load_table(SMALL), status(), clear(), status()] * 30
        self.assertEqual(ask(calls), [[0, 23, 4, 2], [0, 23, 11, 4, 2], [0], [-20]] * 30)



class WhatIsKept(unittest.TestCase):

    def test_what_is_handed_in_is_not_changed(self):
        for text in (SMALL, BARE, FULL):
            calls = [number for call in [load_table(text)] + RIGHT + WRONG + [load_table("?"), clear()]
                     for number in call]
            copy = list(calls)
            answers(calls)
            self.assertEqual(calls, copy)

    def test_what_is_handed_in_is_not_changed_for_a_while_either(self):

        class Unchanging(list):

            def refuse(self, *arguments):
                raise AssertionError("changed")

            append = extend = insert = pop = remove = clear = sort = reverse = refuse
            __setitem__ = __delitem__ = __iadd__ = __imul__ = refuse

        calls = [number for call in [load_table(SMALL)] + RIGHT + WRONG + [clear()] for number in call]
        self.assertEqual(answers(Unchanging(calls)), answers(calls))

    def test_nothing_is_kept_from_one_time_to_the_next(self):
        self.assertEqual(answers(load_table(SMALL)), [4, 0, 23, 4, 2])
        self.assertEqual(answers(status()), [1, -20])
        everything = [number for call in [load_table(SMALL)] + RIGHT + WRONG for number in call]
        first = answers(everything)
        again = answers(everything)
        self.assertEqual(first, again)
        self.assertIsNot(first, again)
        first.clear()
        self.assertEqual(answers(everything), again)
        self.assertEqual(answers(status()), [1, -20])

    def test_each_list_begins_without_a_table(self):
        answers(load_table(FULL))
        for call in RIGHT + WRONG:
            self.assertEqual(answers(call), [1, -20])
        self.assertEqual(answers(clear()), [1, 0])

    def test_the_answers_are_whole_numbers_and_never_true_or_false(self):
        calls = [number for call in [load_table(SMALL)] + RIGHT + WRONG for number in call]
        # told looks at the kind of each number
        self.assertEqual(len(told(1 + len(RIGHT) + len(WRONG), answers(calls))), 1 + len(RIGHT) + len(WRONG))


if __name__ == "__main__":
    unittest.main()
