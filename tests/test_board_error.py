import copy
import itertools
import unittest

from coincounters.boards import board_error, is_board
from tests.samples import (
    BOARD_A, FULL_BOARD, all_counters, nested, sample_boards, values_that_are_no_number, values_that_are_no_pair,
    values_that_are_no_tuple,
)


def with_part(items, at, value):
    return items[:at] + (value,) + items[at + 1:]


class BoardErrorTest(unittest.TestCase):
    def check(self, value, expected):
        """Both functions say so, twice, and leave the value as it was."""
        before = copy.deepcopy(value)
        for repeat in range(2):
            error = board_error(value)
            self.assertEqual(error, expected, value)
            if expected is not None:
                self.assertIs(type(error), tuple)
                self.assertIs(type(error[0]), type(expected[0]))
            self.assertIs(is_board(value), expected is None, value)
        self.assertEqual(repr(value), repr(before))

    def test_boards(self):
        for board in [BOARD_A, FULL_BOARD, *sample_boards()]:
            self.check(board, None)

    def test_boards_without_counters(self):
        for kinds in (1, 2, 3, 4):
            self.check((kinds, ()), None)

    def test_equal_counters(self):
        for many in range(9):
            self.check((2, ((0, 1, 2, 3),) * many), None)

    def test_every_counter_is_accepted(self):
        for kinds in (2, 3, 4):
            for counter in all_counters(kinds):
                self.check((kinds, (counter,)), None)

    def test_all_small_numbers_in_a_counter(self):
        near_kinds, near_rates = range(-1, 6), range(-1, 8)
        for kinds in (1, 2, 3, 4):
            for parts in itertools.product(near_kinds, near_kinds, near_rates, near_rates):
                source, to, give, get = parts
                right = (source != to and source in range(kinds) and to in range(kinds)
                         and give in (1, 2, 3, 4, 5) and get in (1, 2, 3, 4, 5))
                self.check((kinds, (parts,)), None if right else (0, "counter"))

    def test_not_a_pair(self):
        for value in values_that_are_no_tuple() + values_that_are_no_pair():
            self.check(value, (None, "board"))

    def test_wrong_kinds(self):
        wrong = values_that_are_no_number() + [-1, 0, 5, 6, 10 ** 39, -(10 ** 39), BOARD_A]
        for kinds in wrong:
            for counters in ((), BOARD_A[1], [], None, ((),), FULL_BOARD[1] * 2):
                self.check((kinds, counters), (None, "kinds"))

    def test_wrong_counters(self):
        for counters in values_that_are_no_tuple():
            for kinds in (1, 2, 3, 4):
                self.check((kinds, counters), (None, "counters"))

    def test_too_many_counters(self):
        for many in (9, 10, 50):
            self.check((2, ((0, 1, 2, 3),) * many), (None, "counters"))
            self.check((2, (None,) * many), (None, "counters"))
        self.check((3, FULL_BOARD[1] + ((0, 1, 1, 1),)), (None, "counters"))

    def test_counters_of_the_wrong_form(self):
        wrong = values_that_are_no_tuple() + values_that_are_no_pair()[:3] + [
            [0, 1, 2, 3], (0, 1, 2), (0, 1, 2, 3, 4), ((0, 1, 2, 3),), nested((0, 1, 2, 3), 2), (0, 1, (2, 3)),
        ]
        for value in wrong:
            for at in range(8):
                self.check((3, with_part(FULL_BOARD[1], at, value)), (at, "counter"))

    def test_a_part_of_a_counter_replaced(self):
        wrong = values_that_are_no_number() + [-1, 6, 10 ** 39, -(10 ** 39)]
        for kinds, counters in [BOARD_A, FULL_BOARD]:
            for at, counter in enumerate(counters):
                for part in range(4):
                    for value in wrong:
                        replaced = with_part(counter, part, value)
                        self.check((kinds, with_part(counters, at, replaced)), (at, "counter"))

    def test_the_first_wrong_counter_counts(self):
        for first, second in itertools.combinations(range(8), 2):
            counters = with_part(FULL_BOARD[1], first, (0, 0, 1, 1))
            self.check((3, with_part(counters, second, None)), (first, "counter"))

    def test_counters_for_more_kinds(self):
        self.check((1, ((0, 1, 2, 3),)), (0, "counter"))
        self.check((2, ((0, 1, 1, 1), (0, 2, 1, 1))), (1, "counter"))
        self.check((3, ((0, 1, 1, 1), (3, 2, 1, 1))), (1, "counter"))
        self.check((4, ((0, 1, 1, 1), (3, 4, 1, 1))), (1, "counter"))

    def test_bools_right_after_the_equal_numbers(self):
        self.check((1, ()), None)
        self.check((True, ()), (None, "kinds"))
        right = (0, 1, 1, 1)
        for part, value in [(0, False), (1, True), (2, True), (3, True)]:
            self.check((2, (right,)), None)
            self.check((2, (with_part(right, part, value),)), (0, "counter"))
            self.check((2, (right,)), None)
        self.check((2, ((1, 0, 1, 1),)), None)
        self.check((2, ((True, False, True, True),)), (0, "counter"))

    def test_lists_in_the_place_of_tuples(self):
        for kinds, counters in sample_boards():
            self.check([kinds, counters], (None, "board"))
            self.check((kinds, list(counters)), (None, "counters"))
            for at, counter in enumerate(counters):
                self.check((kinds, with_part(counters, at, list(counter))), (at, "counter"))


if __name__ == "__main__":
    unittest.main()
