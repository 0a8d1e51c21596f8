import random
import unittest

from coincounters.best import best_from, best_within, least_needed, needed_counters
from coincounters.boards import without_counter
from coincounters.loops import growth_start, loops_at
from tests.reference import ENDLESS, after_counter, best_by_trying, ends_by_routes, kinds_from
from tests.samples import (
    BOARD_A, BOARD_C, BOARD_G, FULL_BOARD, HELPING_BOARD, LATE_BOARD, LIMIT, SLOW_BOARD, drawn_starts, loop_boards,
    sample_boards,
)

LOSING = (3, ((0, 1, 3, 2), (1, 0, 1, 1), (1, 2, 1, 4), (2, 1, 5, 1)))
KEEPING = (3, ((0, 1, 3, 5), (1, 0, 5, 3), (1, 2, 2, 2), (2, 1, 1, 1)))
GAINING = (4, ((0, 1, 3, 4), (1, 0, 1, 1), (2, 0, 1, 1), (1, 3, 5, 1)))


def all_boards():
    return sample_boards() + loop_boards() + [BOARD_G, FULL_BOARD, LOSING, KEEPING, GAINING]


class BestWithinTest(unittest.TestCase):
    def test_against_all_routes(self):
        for board, kind, amount in drawn_starts(31, all_boards(), 2):
            for steps in range(5):
                ends = ends_by_routes(board, kind, amount, steps)
                expected = tuple(max([coins for end, coins in ends if end == each], default=0)
                                 for each in range(board[0]))
                self.assertEqual(best_within(board, kind, amount, steps), expected)

    def test_many_steps(self):
        for board, kind, amount in drawn_starts(32, all_boards(), 1):
            numbers = [amount if each == kind else 0 for each in range(board[0])]
            for steps in range(101):
                if steps % 10 in (0, 1, 9):
                    self.assertEqual(best_within(board, kind, amount, steps), tuple(numbers))
                offers = [(counter[1], after_counter(counter, numbers[counter[0]])) for counter in board[1]]
                for to, coins in offers:
                    numbers[to] = max(numbers[to], coins)

    def test_no_steps(self):
        self.assertEqual(best_within(FULL_BOARD, 2, 9, 0), (0, 0, 9))
        self.assertEqual(best_within((1, ()), 0, 9, 100), (9,))

    def test_a_hundred_steps(self):
        board = (2, ((0, 1, 1, 5), (1, 0, 1, 5)))
        self.assertEqual(best_within(board, 0, LIMIT, 100), (5 ** 100 * LIMIT, 5 ** 99 * LIMIT))

    def test_a_longer_route_may_be_better(self):
        self.assertEqual(best_within(BOARD_G, 0, 9, 1), (9, 9, 10))
        self.assertEqual(best_within(BOARD_G, 0, 9, 2), (9, 10, 10))

    def test_kinds_to_which_none_leads(self):
        self.assertEqual(best_within(BOARD_G, 1, 3, 100), (0, 3, 0))
        self.assertEqual(best_within(SLOW_BOARD, 0, 100, 2), (100, 75, 111, 0))


class BestFromTest(unittest.TestCase):
    def test_against_trying(self):
        for board, kind, amount in drawn_starts(33, all_boards(), 6):
            numbers = best_from(board, kind, amount)
            self.assertEqual(numbers, best_by_trying(board, kind, amount), (board, kind, amount))
            self.assertIs(type(numbers), tuple)

    def test_all_small_amounts(self):
        for board in [BOARD_A, BOARD_C, BOARD_G, LOSING, KEEPING, GAINING, FULL_BOARD]:
            for kind in range(board[0]):
                for amount in range(40):
                    self.assertEqual(best_from(board, kind, amount), best_by_trying(board, kind, amount))

    def test_around_the_growth_starts(self):
        for board in loop_boards():
            for kind in range(board[0]):
                starts = [growth_start(board, loop) for loop in loops_at(board, kind)]
                for start in [start for start in starts if start is not None]:
                    for amount in (start - 1, start, start + 1):
                        numbers = best_from(board, kind, amount)
                        self.assertEqual(numbers, best_by_trying(board, kind, amount))
                        if amount >= start:
                            self.assertIsNone(numbers[kind])

    def test_just_below_and_at_the_growth_start(self):
        self.assertEqual(best_from(LATE_BOARD, 0, 1269), (1269, 759, 567, 423))
        self.assertEqual(best_from(LATE_BOARD, 0, 1270), (None, None, None, None))
        self.assertEqual(best_from(GAINING, 0, 8), (8, 8, 0, 1))
        self.assertEqual(best_from(GAINING, 0, 9), (None, None, 0, None))
        self.assertEqual(best_from(GAINING, 2, 9), (None, None, 9, None))
        self.assertEqual(best_from(GAINING, 3, LIMIT), (0, 0, 0, LIMIT))

    def test_loops_that_lose_and_keep(self):
        self.assertEqual(best_from(LOSING, 0, LIMIT), (LIMIT, 666666666666, 2666666666664))
        self.assertEqual(best_from(KEEPING, 0, 10), (10, 15, 14))
        self.assertEqual(best_from(KEEPING, 1, LIMIT), (600000000000, LIMIT, LIMIT))

    def test_a_slow_rise(self):
        self.assertEqual(best_from(SLOW_BOARD, 0, 688), (759, 567, 849, 507))
        self.assertEqual(best_from(SLOW_BOARD, 0, 687)[0], 687)

    def test_loops_that_help_each_other(self):
        self.assertEqual(best_from(HELPING_BOARD, 0, 263), (None, None, None, None))
        self.assertEqual(best_from(without_counter(HELPING_BOARD, 1), 0, 263), (263, 87, 85, 210))
        self.assertEqual(best_from(without_counter(HELPING_BOARD, 2), 0, 263), (265, 88, 87, 215))
        self.assertEqual(best_from(without_counter(HELPING_BOARD, 3), 0, 263), (285, 95, 93, 230))
        for amount in range(400):
            self.assertEqual(best_from(HELPING_BOARD, 0, amount), best_by_trying(HELPING_BOARD, 0, amount))

    def test_kinds_to_which_no_route_leads(self):
        for board, kind, amount in drawn_starts(34, all_boards(), 3):
            numbers = best_from(board, kind, amount)
            for each in range(board[0]):
                if each not in kinds_from(board, kind):
                    self.assertEqual(numbers[each], 0)

    def test_no_coins(self):
        for board in all_boards():
            for kind in range(board[0]):
                self.assertEqual(best_from(board, kind, 0), (0,) * board[0])

    def test_numbers_with_an_end_are_reached_within_few_steps(self):
        for board, kind, amount in drawn_starts(35, all_boards(), 2):
            for number, within in zip(best_from(board, kind, amount), best_within(board, kind, amount, 100)):
                if number is not None:
                    self.assertEqual(number, within)


class LeastNeededTest(unittest.TestCase):
    def is_enough(self, board, kind, amount, target, wanted):
        number = best_from(board, kind, amount)[target]
        return number is None or number >= wanted

    def check(self, board, kind, target, wanted):
        least = least_needed(board, kind, target, wanted)
        if target not in kinds_from(board, kind):
            self.assertIsNone(least)
            self.assertFalse(self.is_enough(board, kind, LIMIT, target, wanted))
        else:
            self.assertIs(type(least), int)
            self.assertTrue(self.is_enough(board, kind, least, target, wanted))
            self.assertFalse(self.is_enough(board, kind, least - 1, target, wanted))

    def test_enough_and_one_less_is_not(self):
        chooser = random.Random(36)
        for board in all_boards():
            for repeat in range(6):
                kind, target = chooser.randrange(board[0]), chooser.randrange(board[0])
                self.check(board, kind, target, chooser.randint(1, chooser.choice([3, 20, 500, 2000, LIMIT])))

    def test_small_wishes(self):
        for board in [BOARD_A, BOARD_C, BOARD_G, LOSING, KEEPING, GAINING, FULL_BOARD]:
            for kind in range(board[0]):
                for target in range(board[0]):
                    for wanted in [*range(1, 25), LIMIT - 1, LIMIT]:
                        self.check(board, kind, target, wanted)

    def test_against_trying(self):
        for board in loop_boards()[::3]:
            for target in range(board[0]):
                for wanted in (1, 4, 9, 30, 10 ** 6):
                    least = least_needed(board, 0, target, wanted)
                    numbers = [best_by_trying(board, 0, amount)[target] for amount in (least - 1, least)]
                    self.assertEqual([number is None or number >= wanted for number in numbers], [False, True])

    def test_growth_is_enough_for_all_wishes(self):
        for wanted in (10 ** 6, LIMIT):
            self.assertEqual(least_needed(LATE_BOARD, 0, 2, wanted), 1270)
            self.assertEqual(least_needed(GAINING, 0, 3, wanted), 9)
            self.assertEqual(least_needed(GAINING, 2, 3, wanted), 9)
            self.assertEqual(least_needed(GAINING, 2, 2, wanted), wanted)

    def test_a_growth_from_which_no_route_leads_to_the_target(self):
        board = (4, ((0, 1, 1, 2), (1, 0, 1, 1), (2, 3, 5, 1), (2, 0, 1, 1)))
        self.assertEqual(least_needed(board, 2, 3, 7), 35)
        self.assertEqual(least_needed(board, 2, 1, 7), 1)
        self.assertIsNone(least_needed(board, 0, 3, 7))

    def test_above_the_limit(self):
        board = (4, ((0, 1, 5, 1), (1, 2, 5, 1), (2, 3, 5, 1)))
        self.assertEqual(least_needed(board, 0, 3, LIMIT), 125 * LIMIT)

    def test_the_kind_itself(self):
        self.assertEqual(least_needed((1, ()), 0, 0, 7), 7)
        self.assertEqual(least_needed(BOARD_A, 0, 0, 3), 2)

    def test_no_route(self):
        self.assertIsNone(least_needed((2, ()), 0, 1, 1))
        self.assertIsNone(least_needed(GAINING, 0, 2, 1))
        self.assertIsNone(least_needed(GAINING, 3, 1, LIMIT))


class NeededCountersTest(unittest.TestCase):
    def test_against_leaving_out_each_counter(self):
        for board, kind, amount in drawn_starts(37, all_boards(), 3):
            tops = self.tops(board, kind, amount)
            expected = []
            for index in range(len(board[1])):
                without = (board[0], board[1][:index] + board[1][index + 1:])
                if any(less < top for less, top in zip(self.tops(without, kind, amount), tops)):
                    expected.append(index)
            self.assertEqual(needed_counters(board, kind, amount), tuple(expected))

    def tops(self, board, kind, amount):
        return [ENDLESS if number is None else number for number in best_by_trying(board, kind, amount)]

    def test_equal_counters(self):
        self.assertEqual(needed_counters((2, ((0, 1, 2, 3), (0, 1, 2, 3))), 0, 9), ())
        self.assertEqual(needed_counters((2, ((0, 1, 2, 3), (1, 0, 1, 1), (0, 1, 2, 3))), 0, 2), (1,))

    def test_a_counter_that_gives_less_than_another_one(self):
        board = (2, ((0, 1, 3, 1), (0, 1, 2, 3), (0, 1, 2, 1)))
        self.assertEqual(needed_counters(board, 0, 9), (1,))
        self.assertEqual(needed_counters(board, 0, 1), ())

    def test_which_one_gives_more_depends_on_the_amount(self):
        board = (2, ((0, 1, 2, 2), (0, 1, 3, 3)))
        self.assertEqual(needed_counters(board, 0, 2), (0,))
        self.assertEqual(needed_counters(board, 0, 3), (1,))
        self.assertEqual(needed_counters(board, 0, 6), ())

    def test_numbers_without_end(self):
        self.assertEqual(needed_counters(GAINING, 0, 9), (0, 1, 3))
        self.assertEqual(needed_counters(GAINING, 2, 9), (0, 1, 2, 3))
        self.assertEqual(needed_counters(GAINING, 3, 9), ())

    def test_loops_that_help_each_other(self):
        self.assertEqual(needed_counters(HELPING_BOARD, 0, 263), (0, 1, 2, 3, 4, 5))
        self.assertEqual(needed_counters(HELPING_BOARD, 0, LIMIT), (0, 4, 5))

    def test_no_counters(self):
        self.assertEqual(needed_counters((1, ()), 0, 5), ())
        self.assertEqual(needed_counters((4, ()), 3, LIMIT), ())


if __name__ == "__main__":
    unittest.main()
