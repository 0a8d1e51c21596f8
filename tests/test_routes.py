import itertools
import math
import random
import unittest

from coincounters.errors import TooLong, TooMany
from coincounters.routes import amounts_within, comes_out, find_difference, least_start, period_of
from tests.reference import after_route, all_routes, ends_by_routes
from tests.samples import BOARD_A, BOARD_G, FULL_BOARD, LIMIT, drawn_route, loop_boards, sample_boards


def given(board, kind, route, amount):
    return after_route(board, kind, amount, route)[1]


def drawn_routes(seed, lengths):
    """Triples of a board, a kind and a route, the same ones in each run."""
    chooser = random.Random(seed)
    for board in sample_boards() + loop_boards():
        for many in lengths:
            kind = chooser.randrange(board[0])
            yield board, kind, drawn_route(board, kind, many, chooser)


class LeastStartTest(unittest.TestCase):
    def check(self, board, kind, route, wanted):
        least = least_start(board, kind, route, wanted)
        self.assertIs(type(least), int)
        self.assertGreaterEqual(least, 0)
        self.assertGreaterEqual(given(board, kind, route, least), wanted)
        if least > 0:
            self.assertLess(given(board, kind, route, least - 1), wanted)

    def test_enough_and_one_less_is_not(self):
        chooser = random.Random(3)
        for board, kind, route in drawn_routes(4, (0, 1, 2, 3, 7, 200)):
            wishes = [0, 1, 2, 3, 4, 5, 6, LIMIT - 1, LIMIT, chooser.randint(0, 1000), chooser.randint(0, LIMIT)]
            for wanted in wishes:
                self.check(board, kind, route, wanted)

    def test_every_single_counter(self):
        for give, get in itertools.product(range(1, 6), repeat=2):
            board = (2, ((0, 1, give, get),))
            for wanted in range(30):
                self.check(board, 0, (0,), wanted)

    def test_no_counter(self):
        for wanted in (0, 1, 9, LIMIT):
            self.assertEqual(least_start(BOARD_A, 1, (), wanted), wanted)

    def test_nothing_wanted(self):
        for board, kind, route in drawn_routes(5, (1, 4, 200)):
            self.assertEqual(least_start(board, kind, route, 0), 0)

    def test_above_the_limit(self):
        board = (2, ((0, 1, 5, 1), (1, 0, 4, 1)))
        self.assertEqual(least_start(board, 0, (0, 1), LIMIT), 20 * LIMIT)
        self.assertEqual(least_start(board, 0, (0, 1) * 100, LIMIT), 20 ** 100 * LIMIT)


class ComesOutTest(unittest.TestCase):
    def test_against_all_amounts(self):
        for board, kind, route in drawn_routes(6, (0, 1, 2, 3)):
            give, get = period_of(board, kind, route)
            # As the route gives get coins more for give coins more, this gives all numbers up to 40.
            results = {given(board, kind, route, amount) for amount in range(give * (40 // get + 2))}
            for wanted in range(41):
                self.assertIs(comes_out(board, kind, route, wanted), wanted in results)

    def test_long_routes(self):
        chooser = random.Random(7)
        for board, kind, route in drawn_routes(8, (10, 50, 200)):
            for amount in (0, 1, 17, chooser.randint(0, LIMIT), 5 ** 200, 3 ** 300):
                self.assertIs(comes_out(board, kind, route, given(board, kind, route, amount)), True)

    def test_long_routes_by_halving(self):
        chooser = random.Random(15)
        few = list(drawn_routes(16, (8,))) + list(drawn_routes(17, (200,)))[::30]
        for board, kind, route in few:
            for wanted in [1, 2, 3, 4, 5, 12, LIMIT, chooser.randint(0, LIMIT)]:
                self.assertIs(comes_out(board, kind, route, wanted), self.is_hit(board, kind, route, wanted))

    def is_hit(self, board, kind, route, wanted):
        """By halving: the first amount that gives enough gives exactly wanted, or none does."""
        low, high = 0, (wanted + 1) * 5 ** len(route)
        while low < high:
            middle = (low + high) // 2
            if given(board, kind, route, middle) >= wanted:
                high = middle
            else:
                low = middle + 1
        return given(board, kind, route, low) == wanted

    def test_above_the_limit(self):
        board = (2, ((0, 1, 5, 1), (1, 0, 1, 5)))
        self.assertIs(comes_out(board, 0, (0,), LIMIT), True)
        self.assertIs(comes_out(board, 0, (0, 1), LIMIT), True)
        self.assertIs(comes_out(board, 0, (0, 1), LIMIT - 1), False)

    def test_no_counter(self):
        for wanted in (0, 1, 2, LIMIT):
            self.assertIs(comes_out(BOARD_A, 0, (), wanted), True)


class PeriodTest(unittest.TestCase):
    def test_products(self):
        for board, kind, route in drawn_routes(9, (0, 1, 2, 5, 200)):
            counters = [board[1][index] for index in route]
            expected = (math.prod(counter[2] for counter in counters), math.prod(counter[3] for counter in counters))
            self.assertEqual(period_of(board, kind, route), expected)

    def test_no_counter(self):
        for board in sample_boards():
            for kind in range(board[0]):
                self.assertEqual(period_of(board, kind, ()), (1, 1))

    def test_so_many_coins_more_give_so_many_more(self):
        chooser = random.Random(10)
        for board, kind, route in drawn_routes(11, (1, 3, 20)):
            give, get = period_of(board, kind, route)
            amount = chooser.randint(0, 10 ** 6)
            self.assertEqual(given(board, kind, route, amount + give), given(board, kind, route, amount) + get)


class FindDifferenceTest(unittest.TestCase):
    def check(self, board, kind, route, other):
        expected = None
        # Two periods, so that a difference behind the bound of the document would be seen.
        for amount in range(2 * math.lcm(period_of(board, kind, route)[0], period_of(board, kind, other)[0]) + 1):
            if given(board, kind, route, amount) != given(board, kind, other, amount):
                expected = amount
                break
        self.assertEqual(find_difference(board, kind, route, other), expected)
        self.assertEqual(find_difference(board, kind, other, route), expected)
        return expected

    def test_pairs_of_routes(self):
        chooser = random.Random(12)
        results = []
        for board in sample_boards() + loop_boards():
            kind = chooser.randrange(board[0])
            routes = all_routes(board, kind, 3)
            for repeat in range(8):
                route = chooser.choice(routes)
                end = after_route(board, kind, 0, route)[0]
                fitting = [each for each in routes if after_route(board, kind, 0, each)[0] == end]
                results.append(self.check(board, kind, route, chooser.choice(fitting)))
        self.assertGreater(results.count(None), 50)
        self.assertGreater(len(results) - results.count(None), 50)

    def test_equal_routes(self):
        for board in sample_boards():
            for kind in range(board[0]):
                for route in all_routes(board, kind, 3)[:30]:
                    self.assertIsNone(find_difference(board, kind, route, route))

    def test_equal_results_of_different_routes(self):
        board = (3, ((0, 1, 2, 3), (0, 1, 2, 3), (0, 2, 2, 1), (2, 1, 1, 3), (1, 0, 1, 1), (0, 1, 4, 5), (0, 2, 2, 2),
                     (2, 1, 2, 3)))
        self.assertIsNone(self.check(board, 0, (0,), (1,)))
        self.assertIsNone(self.check(board, 0, (0,), (2, 3)))
        self.assertIsNone(self.check(board, 0, (0,), (6, 7)))
        self.assertIsNone(self.check(board, 0, (0, 4, 1), (1, 4, 0)))
        self.assertIsNone(self.check(board, 0, (2, 3), (0,)))
        self.assertEqual(self.check(board, 0, (0,), (5,)), 2)

    def test_no_counter(self):
        self.assertIsNone(find_difference(BOARD_A, 0, (), ()))
        self.assertEqual(find_difference((2, ((0, 1, 1, 2), (1, 0, 1, 1))), 0, (), (0, 1)), 1)
        self.assertIsNone(find_difference((2, ((0, 1, 1, 2), (1, 0, 2, 1))), 0, (), (0, 1)))

    def test_the_greatest_amount_that_may_be_needed(self):
        board = (2, ((0, 1, 5, 1), (1, 0, 5, 1), (0, 1, 5, 2), (0, 1, 4, 1)))
        self.assertEqual(find_difference(board, 0, (0,), (2,)), 5)
        self.assertEqual(find_difference(board, 0, (0, 1, 0), (0, 1, 2)), 125)
        self.assertEqual(find_difference(board, 0, (0, 1, 2), (0, 1, 0)), 125)
        self.assertEqual(find_difference(board, 0, (0,), (3,)), 4)

    def test_equal_products_and_different_results(self):
        board = (2, ((0, 1, 2, 2), (0, 1, 3, 3), (0, 1, 1, 1), (0, 1, 4, 4), (1, 0, 1, 1), (0, 1, 2, 4), (1, 0, 4, 2)))
        self.assertEqual(self.check(board, 0, (0,), (3,)), 2)
        self.assertEqual(self.check(board, 0, (0, 4, 1), (1, 4, 0)), 3)
        self.assertEqual(self.check(board, 0, (5, 6), ()), 1)

    def test_a_difference_behind_many_equal_amounts(self):
        board = (2, ((0, 1, 5, 4), (1, 0, 4, 5), (0, 1, 5, 5), (1, 0, 5, 4), (1, 0, 1, 1)))
        for route, other in itertools.combinations(all_routes(board, 0, 3), 2):
            if after_route(board, 0, 0, route)[0] == after_route(board, 0, 0, other)[0]:
                self.check(board, 0, route, other)

    def test_routes_that_are_too_long(self):
        long, short = (0, 1, 0, 1), (0, 1)
        for route, other in [(long, short), (short, long), (long, long), ((0, 1) * 100, ()), ((), (0, 1) * 100)]:
            with self.assertRaises(TooLong) as caught:
                find_difference(BOARD_A, 0, route, other)
            self.assertIs(type(caught.exception), TooLong)
            self.assertEqual(caught.exception.bound, 3)
        self.assertEqual(find_difference(BOARD_A, 0, (0, 1, 0), (0,)), 4)


class AmountsWithinTest(unittest.TestCase):
    def check(self, board, kind, amount, steps):
        ends = ends_by_routes(board, kind, amount, steps)
        expected = tuple(tuple(sorted(coins for end, coins in ends if end == each)) for each in range(board[0]))
        self.assertEqual(amounts_within(board, kind, amount, steps), expected)
        self.assertIn(amount, expected[kind])

    def test_against_a_search(self):
        chooser = random.Random(13)
        for board in sample_boards() + loop_boards():
            for steps in (0, 1, 2, 3, 4):
                self.check(board, chooser.randrange(board[0]), chooser.choice([0, 3, 20, 500, LIMIT]), steps)

    def test_five_and_six_steps(self):
        chooser = random.Random(14)
        for board in [(1, ()), BOARD_A, BOARD_G, *chooser.sample(loop_boards(), 25)]:
            for steps in (5, 6):
                self.check(board, chooser.randrange(board[0]), chooser.choice([9, 100, LIMIT]), steps)

    def test_no_steps(self):
        self.assertEqual(amounts_within(FULL_BOARD, 1, 5, 0), ((), (5,), ()))
        self.assertEqual(amounts_within((1, ()), 0, 0, 6), ((0,),))

    def test_ascending_tuples_without_repeats(self):
        result = amounts_within(FULL_BOARD, 0, 1000, 6)
        self.assertIs(type(result), tuple)
        for amounts in result:
            self.assertIs(type(amounts), tuple)
            self.assertTrue(all(one < other for one, other in itertools.pairwise(amounts)))

    def test_too_many_steps(self):
        for board in [(1, ()), BOARD_A, FULL_BOARD]:
            for steps in (7, 8, 100, 10 ** 12, 10 ** 29, 10 ** 30 - 1):
                with self.assertRaises(TooMany) as caught:
                    amounts_within(board, 0, 5, steps)
                self.assertIs(type(caught.exception), TooMany)
                self.assertEqual(caught.exception.bound, 6)


if __name__ == "__main__":
    unittest.main()
