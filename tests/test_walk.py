"""Purse.walk against a search among all amounts."""

import random
import unittest

from coincounters.best import best_within
from coincounters.purses import CappedPurse, Purse
from tests.purse_case import WRONG_AMOUNTS, WRONG_NUMBERS, PurseCase
from tests.purse_model import smallest_shortest_route, stations, view
from tests.reference import after_counter, all_routes, after_route
from tests.samples import BOARD_A, BOARD_G, FULL_BOARD, LIMIT, SLOW_BOARD, drawn_starts, loop_boards, sample_boards

# Each round of this loop makes about a quarter more, so great wishes need more than 200 counters.
SLOWLY_GROWING = (2, ((0, 1, 4, 5), (1, 0, 1, 1)))


class WalkTest(PurseCase):
    def walk(self, board, kind, amount, target, wanted):
        """What walk yields, twice, and the purse is left as it was."""
        purse = Purse(board, kind, amount)
        before = view(purse)
        shown = list(purse.walk(target, wanted))
        self.assertEqual(list(purse.walk(target, wanted)), shown)
        self.assertEqual(view(purse), before)
        return shown

    def check(self, board, kind, amount, target, wanted):
        route = smallest_shortest_route(board, kind, amount, target, wanted)
        if route is None or len(route) > 200:
            route = ()
        expected = stations(board, amount, route)
        self.assertEqual(repr(self.walk(board, kind, amount, target, wanted)), repr(expected), (board, kind, amount))
        return len(expected)

    def test_against_a_search_among_all_amounts(self):
        chooser = random.Random(131)
        lengths = []
        for board, kind, amount in drawn_starts(132, sample_boards() + loop_boards(), 2):
            coins = chooser.choice([amount % 20, amount % 200])
            lengths.append(self.check(board, kind, coins, chooser.randrange(board[0]), chooser.randint(1, 60)))
        self.assertGreater(lengths.count(0), 50)
        self.assertGreater(lengths.count(1), 20)
        self.assertGreater(len([many for many in lengths if many > 3]), 10)

    def test_all_small_wishes(self):
        for board in [(1, ()), BOARD_A, BOARD_G, FULL_BOARD]:
            for kind in range(board[0]):
                for target in range(board[0]):
                    for amount in range(0, 12, 3):
                        for wanted in (1, 2, 5, 9, 20):
                            self.check(board, kind, amount, target, wanted)

    def test_against_all_short_routes(self):
        for board, kind, amount in drawn_starts(133, sample_boards()[::3], 1):
            for target in range(board[0]):
                for wanted in (1, 7, 50):
                    ends = [(len(route), route, after_route(board, kind, amount % 60, route))
                            for route in all_routes(board, kind, 4)]
                    enough = [row for row in ends if row[2][0] == target and row[2][1] >= wanted]
                    shown = self.walk(board, kind, amount % 60, target, wanted)
                    if enough:
                        self.assertEqual(tuple(index for index, end, coins in shown), min(enough)[1])
                    else:
                        self.assertTrue(not shown or len(shown) > 4)

    def is_within(self, board, kind, amount, target, wanted, steps):
        return best_within(board, kind, amount, steps)[target] >= wanted

    def test_great_wishes(self):
        """No fewer counters are enough, and at no place a smaller number leads on."""
        chooser = random.Random(134)
        for board, kind, amount in drawn_starts(135, loop_boards()[::2], 1):
            target, wanted = chooser.randrange(board[0]), chooser.randint(1, LIMIT)
            shown = self.walk(board, kind, amount, target, wanted)
            if not shown:
                nothing_needed = kind == target and amount >= wanted
                self.assertTrue(nothing_needed or not self.is_within(board, kind, amount, target, wanted, 200))
                continue
            self.assertEqual(shown, stations(board, amount, [index for index, end, coins in shown]))
            self.assertTrue(shown[-1][1] == target and shown[-1][2] >= wanted)
            self.assertFalse(self.is_within(board, kind, amount, target, wanted, len(shown) - 1))
            for at, (index, end, coins) in enumerate(shown):
                for counter in board[1][:index]:
                    if counter[0] == kind:
                        after = after_counter(counter, amount)
                        left = len(shown) - at - 1
                        self.assertFalse(self.is_within(board, counter[1], after, target, wanted, left))
                kind, amount = end, coins

    def test_the_smallest_of_several(self):
        board = (4, ((2, 3, 1, 1), (1, 3, 1, 1), (0, 2, 1, 1), (0, 1, 1, 1), (0, 2, 1, 1)))
        self.assertEqual(self.walk(board, 0, 5, 3, 5), [(2, 2, 5), (0, 3, 5)])
        self.assertEqual(self.walk((2, ((0, 1, 2, 2), (0, 1, 1, 1))), 0, 4, 1, 4), [(0, 1, 4)])
        self.assertEqual(self.walk((2, ((0, 1, 2, 2), (0, 1, 1, 1))), 0, 5, 1, 5), [(1, 1, 5)])

    def test_the_shortest_one_even_if_it_gives_less(self):
        self.assertEqual(self.walk(BOARD_G, 0, 9, 1, 9), [(0, 1, 9)])
        self.assertEqual(self.walk(BOARD_G, 0, 9, 1, 10), [(1, 2, 10), (2, 1, 10)])

    def test_a_route_also_where_a_certificate_is_growth(self):
        purse = Purse(BOARD_A, 0, 4)
        self.assertEqual(purse.certificate(1, 6)[0], "growth")
        self.assertEqual(list(purse.walk(1, 6)), [(0, 1, 6)])

    def test_nothing_needs_to_be_changed(self):
        for amount in (1, 5, LIMIT):
            self.assertEqual(self.walk(BOARD_A, 0, amount, 0, 1), [])
            self.assertEqual(self.walk(BOARD_A, 0, amount, 0, amount), [])

    def test_no_route_is_enough(self):
        self.assertEqual(self.walk(BOARD_A, 0, 2, 1, 4), [])
        self.assertEqual(self.walk(BOARD_G, 1, LIMIT, 0, 1), [])
        self.assertEqual(self.walk((2, ()), 0, LIMIT, 1, 1), [])
        self.assertEqual(self.walk((1, ()), 0, 0, 0, 1), [])

    def test_routes_of_up_to_200_counters(self):
        amounts = [100]
        for turn in range(102):
            amounts.append(amounts[-1] // 4 * 5)
        for turns in (1, 2, 50, 99, 100):
            wanted = amounts[turns - 1] + 1
            self.assertEqual(len(self.walk(SLOWLY_GROWING, 0, 100, 0, wanted)), 2 * turns)
            self.assertEqual(len(self.walk(SLOWLY_GROWING, 0, 100, 0, amounts[turns])), 2 * turns)
            self.assertEqual(len(self.walk(SLOWLY_GROWING, 0, 100, 1, wanted)), 2 * turns - 1)
        self.assertLess(amounts[101], LIMIT)
        for wanted in (amounts[100] + 1, amounts[101], amounts[101] + 1, LIMIT):
            self.assertEqual(self.walk(SLOWLY_GROWING, 0, 100, 0, wanted), [])
            self.assertEqual(self.walk(SLOWLY_GROWING, 0, 100, 1, wanted), [])

    def test_a_slow_loop(self):
        shown = self.walk(SLOW_BOARD, 0, 688, 0, 759)
        self.assertEqual([index for index, kind, amount in shown], [0, 1, 2, 3] * 15)
        self.assertEqual(shown[-1], (3, 0, 759))

    def test_amounts_above_the_limit(self):
        board = (3, ((0, 1, 1, 5), (1, 2, 5, 1)))
        self.assertEqual(self.walk(board, 0, LIMIT, 2, LIMIT), [(0, 1, 5 * LIMIT), (1, 2, LIMIT)])

    def test_the_purse_does_not_change_if_one_stops_early(self):
        purse = Purse(BOARD_A, 0, 4)
        before = view(purse)
        for many in range(4):
            walk = purse.walk(1, 9)
            shown = [next(walk) for repeat in range(many)]
            self.assertEqual(shown, [(0, 1, 6), (1, 0, 6), (0, 1, 9)][:many])
            self.assertEqual(view(purse), before)
            walk.close()
            self.assertEqual([purse.earn(1), purse.undo()], [1, 0])

    def test_two_walks_at_once(self):
        purse = Purse(BOARD_A, 0, 4)
        one, other = purse.walk(1, 9), purse.walk(0, 9)
        self.assertEqual([next(one), next(other), next(one), next(other)], [(0, 1, 6), (0, 1, 6), (1, 0, 6), (1, 0, 6)])

    def test_after_edits(self):
        purse = Purse((2, ()), 0, 1)
        self.assertEqual(list(purse.walk(1, 4)), [])
        purse.put_up((0, 1, 1, 4))
        self.assertEqual(list(purse.walk(1, 4)), [(0, 1, 4)])
        purse.change(0)
        self.assertEqual(list(purse.walk(1, 4)), [])
        purse.undo()
        self.assertEqual(list(purse.walk(1, 4)), [(0, 1, 4)])

    def test_the_cap_does_not_matter(self):
        self.assertEqual(list(CappedPurse(BOARD_A, 0, 4, 5).walk(1, 9)), [(0, 1, 6), (1, 0, 6), (0, 1, 9)])

    def test_no_kind_then_bad_amount(self):
        for board in [(1, ()), BOARD_A]:
            purse = Purse(board, 0, 2)
            for target in WRONG_NUMBERS + [board[0], board[0] + 1]:
                for wanted in (1, 0, None, LIMIT + 1):
                    self.refused("NoKind", {"value": target}, self.first_of, purse, target, wanted)
            for wanted in WRONG_AMOUNTS + [0]:
                self.refused("BadAmount", {"value": wanted}, self.first_of, purse, 0, wanted)

    def first_of(self, purse, target, wanted):
        return next(iter(purse.walk(target, wanted)), None)

    def test_bools_right_after_the_equal_numbers(self):
        purse = Purse(BOARD_A, 0, 2)
        self.assertEqual(self.first_of(purse, 1, 1), (0, 1, 3))
        self.refused("NoKind", {"value": True}, self.first_of, purse, True, 1)
        self.refused("BadAmount", {"value": True}, self.first_of, purse, 1, True)
        self.assertIsNone(self.first_of(purse, 0, 1))
        self.refused("NoKind", {"value": False}, self.first_of, purse, False, 1)


if __name__ == "__main__":
    unittest.main()
