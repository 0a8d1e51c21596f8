import copy
import random
import unittest

from coincounters.errors import BadRoute
from coincounters.routes import run
from tests.reference import after_route, route_fault
from tests.samples import (
    BOARD_A, FULL_BOARD, LIMIT, damaged, drawn_route, loop_boards, sample_boards, values_that_are_no_number,
    values_that_are_no_tuple,
)

AMOUNTS = [0, 1, 2, 7, 100, 12345, LIMIT - 1, LIMIT]


class RunTest(unittest.TestCase):
    def check(self, board, kind, amount, value):
        """The result or the error is right, twice, and the value is left as it was."""
        before = copy.deepcopy(value)
        fault = route_fault(board, kind, value)
        for repeat in range(2):
            if fault is None:
                result = run(board, kind, amount, value)
                self.assertEqual(result, after_route(board, kind, amount, value))
                self.assertEqual([type(result), type(result[0]), type(result[1])], [tuple, int, int])
            else:
                self.check_refused(board, kind, amount, value, None if fault == "whole" else fault)
        self.assertEqual(repr(value), repr(before))

    def check_refused(self, board, kind, amount, value, index):
        with self.assertRaises(BadRoute) as caught:
            run(board, kind, amount, value)
        self.assertIs(type(caught.exception), BadRoute)
        self.assertEqual(caught.exception.index, index, value)
        self.assertIs(type(caught.exception.index), type(index))

    def test_no_counter(self):
        for board in sample_boards():
            for kind in range(board[0]):
                for amount in AMOUNTS:
                    self.assertEqual(run(board, kind, amount, ()), (kind, amount))

    def test_drawn_routes(self):
        chooser = random.Random(1)
        for board in sample_boards() + loop_boards():
            for many in (1, 2, 3, 5, 10, 200):
                kind = chooser.randrange(board[0])
                self.check(board, kind, chooser.choice(AMOUNTS), drawn_route(board, kind, many, chooser))

    def test_rounding_down_at_each_counter(self):
        board = (3, ((0, 1, 3, 2), (1, 2, 5, 4), (2, 0, 2, 5)))
        self.assertEqual(run(board, 0, 29, (0, 1, 2)), (0, 30))
        self.assertEqual(run(board, 0, 8, (0, 1, 2)), (0, 0))
        self.assertEqual(run(board, 1, 11, (1, 2, 0, 1)), (2, 8))

    def test_the_bound_of_the_length(self):
        for many in (198, 199, 200):
            self.assertEqual(run(BOARD_A, 0, 3, (0, 1) * (many // 2) + (0,) * (many % 2)), (many % 2, 3))
        for many in (201, 202, 1000):
            self.check_refused(BOARD_A, 0, 3, ((0, 1) * many)[:many], None)
            self.check_refused(BOARD_A, 1, 3, ((0, 1) * many)[:many], None)
            self.check_refused(BOARD_A, 0, 3, (None,) * many, None)
        self.check_refused(BOARD_A, 0, 3, (0, 1) * 99 + (0, 0), 199)
        self.check_refused(BOARD_A, 0, 3, (None,) * 200, 0)

    def test_results_above_the_limit(self):
        board = (2, ((0, 1, 1, 5), (1, 0, 1, 5)))
        self.assertEqual(run(board, 0, LIMIT, (0,)), (1, 5 * LIMIT))
        self.assertEqual(run(board, 0, LIMIT, (0, 1) * 100), (0, 5 ** 200 * LIMIT))

    def test_no_board_has_a_counter_below_0_or_behind_the_last(self):
        for board in sample_boards():
            many = len(board[1])
            for kind in range(board[0]):
                for item in (-many - 1, -many, -1, many, many + 1, 10 ** 39, -(10 ** 39)):
                    self.check_refused(board, kind, 5, (item,), 0)

    def test_a_counter_for_another_kind(self):
        self.check_refused(BOARD_A, 0, 5, (1,), 0)
        self.check_refused(BOARD_A, 1, 5, (0,), 0)
        self.check_refused(BOARD_A, 0, 5, (0, 0), 1)
        self.check_refused(BOARD_A, 0, 5, (0, 1, 0, 1, 1, 1), 4)

    def test_the_kind_alone_decides_and_not_the_coins(self):
        self.check_refused(BOARD_A, 0, 0, (0, 0), 1)
        self.assertEqual(run(BOARD_A, 0, 0, (0, 1)), (0, 0))

    def test_items_replaced_left_out_repeated_exchanged(self):
        chooser = random.Random(2)
        for board in sample_boards() + loop_boards():
            for many in (1, 3, 6):
                kind = chooser.randrange(board[0])
                for value in damaged(drawn_route(board, kind, many, chooser)):
                    self.check(board, kind, 77, value)

    def test_one_item_of_a_long_route_replaced(self):
        route = (0, 1) * 100
        for at in (0, 1, 2, 99, 198, 199):
            for value in values_that_are_no_number() + [-1, 2, 1 - route[at]]:
                self.check_refused(BOARD_A, 0, 9, route[:at] + (value,) + route[at + 1:], at)

    def test_bools_right_after_the_equal_numbers(self):
        self.assertEqual(run(BOARD_A, 0, 7, (0, 1, 0)), (1, 12))
        self.check_refused(BOARD_A, 0, 7, (False, 1, 0), 0)
        self.check_refused(BOARD_A, 0, 7, (0, True, 0), 1)
        self.check_refused(BOARD_A, 0, 7, (0, 1, False), 2)
        self.assertEqual(run(BOARD_A, 0, 7, (0, 1, 0)), (1, 12))
        self.assertEqual(run(BOARD_A, 1, 7, (1,)), (0, 7))
        self.check_refused(BOARD_A, 1, 7, (True,), 0)

    def test_lists_in_the_place_of_tuples(self):
        for route in [[], [0], [0, 1, 0]]:
            self.check_refused(BOARD_A, 0, 7, route, None)
        self.check_refused(BOARD_A, 0, 7, ([0], 1), 0)

    def test_values_of_other_kinds(self):
        for board in [(1, ()), BOARD_A, FULL_BOARD]:
            for value in values_that_are_no_tuple():
                self.check_refused(board, 0, 7, value, None)
                self.check_refused(board, 0, 7, (value,) * 201, None)
                if type(value) is not int:
                    self.check_refused(board, 0, 7, (value,), 0)


if __name__ == "__main__":
    unittest.main()
