import inspect
import itertools
import random
import unittest

from coincounters.loops import fate_of, fixed_amounts, greatest_fixed, growth_start, is_loop, loops_at, turn_of
from coincounters.routes import period_of
from tests.reference import LATEST_GROWTH, after_route, fate_by_turning, loops_by_listing, route_fault
from tests.samples import (
    BOARD_A, BOARD_C, BOARD_G, FULL_BOARD, LATE_BOARD, LIMIT, SLOW_BOARD, damaged, loop_boards, nested, sample_boards,
    values_that_are_no_number, values_that_are_no_pair, values_that_are_no_tuple,
)


def closes(board, value):
    """Whether a value is a loop, by the words of the document."""
    if type(value) is not tuple or len(value) not in (1, 2, 3, 4):
        return False
    return any(
        route_fault(board, kind, value) is None and after_route(board, kind, 0, value)[0] == kind
        for kind in range(board[0])
    )


def drawn_loops(seed, many):
    """Pairs of a board and a loop, also ones that come to a kind twice, the same ones in each run."""
    chooser = random.Random(seed)
    pairs = []
    for board in loop_boards():
        loops = [each for length in (2, 3, 4) for each in itertools.product(range(len(board[1])), repeat=length)
                 if closes(board, each)]
        pairs += [(board, chooser.choice(loops)) for repeat in range(many)]
    return pairs


def rate_loops():
    """Pairs of a board and a loop of two counters, for all rates."""
    return [((2, ((0, 1, *first), (1, 0, *second))), (0, 1))
            for first, second in itertools.product(itertools.product(range(1, 6), repeat=2), repeat=2)]


def turned(board, loop, amount):
    return after_route(board, board[1][loop[0]][0], amount, loop)[1]


def products(board, loop):
    return period_of(board, board[1][loop[0]][0], loop)


class IsLoopTest(unittest.TestCase):
    def check(self, board, value):
        self.assertIs(is_loop(board, value), closes(board, value), (board, value))

    def test_all_tuples_of_up_to_five_counters(self):
        for board in [(1, ()), BOARD_A, BOARD_G, SLOW_BOARD, (3, FULL_BOARD[1][:5])]:
            for many in range(6):
                for value in itertools.product(range(-1, len(board[1]) + 1), repeat=many):
                    self.check(board, value)

    def test_drawn_loops(self):
        for board, loop in drawn_loops(21, 3):
            self.assertIs(is_loop(board, loop), True)
            for value in damaged(loop):
                self.check(board, value)

    def test_four_counters_and_five(self):
        self.assertIs(is_loop(BOARD_A, (0, 1, 0, 1)), True)
        self.assertIs(is_loop(BOARD_A, (0, 1, 0, 1, 0)), False)
        self.assertIs(is_loop(BOARD_A, (0, 1, 0, 1, 0, 1)), False)
        board = (3, ((0, 1, 1, 1), (1, 2, 1, 1), (2, 0, 1, 1), (1, 0, 1, 1)))
        self.assertIs(is_loop(board, (0, 1, 2, 0, 3)), False)
        self.assertIs(is_loop(board, (0, 1, 2)), True)

    def test_no_counter(self):
        for board in sample_boards():
            self.assertIs(is_loop(board, ()), False)

    def test_routes_that_do_not_close(self):
        self.assertIs(is_loop(BOARD_A, (0,)), False)
        self.assertIs(is_loop(BOARD_A, (0, 1, 0)), False)
        self.assertIs(is_loop(SLOW_BOARD, (0, 1, 2)), False)
        self.assertIs(is_loop(SLOW_BOARD, (1, 2, 3, 0)), True)

    def test_bools_right_after_the_equal_numbers(self):
        for value in [(False, 1), (0, True), (False, True)]:
            self.assertIs(is_loop(BOARD_A, (0, 1)), True)
            self.assertIs(is_loop(BOARD_A, value), False)
        for value in [(True, 0), (1, False), (1, 0, True, 0), (1, 0, 1, False)]:
            self.assertIs(is_loop(BOARD_A, (1, 0, 1, 0)), True)
            self.assertIs(is_loop(BOARD_A, value), False)

    def test_values_of_other_kinds(self):
        others = values_that_are_no_tuple() + values_that_are_no_number() + values_that_are_no_pair()
        for board in [(1, ()), BOARD_A, FULL_BOARD]:
            for value in others + [[0, 1], ([0], 1), nested((0, 1), 1), {"0": 1}]:
                self.check(board, value)
                self.check(board, (value,))
                self.check(board, (0, value))


class TurnTest(unittest.TestCase):
    def test_turns(self):
        chooser = random.Random(22)
        for board, loop in drawn_loops(23, 5):
            for amount in (0, 1, 5, chooser.randint(0, 2000), LIMIT):
                self.assertEqual(turn_of(board, loop, amount), turned(board, loop, amount))

    def test_turns_above_the_limit(self):
        board = (2, ((0, 1, 1, 5), (1, 0, 1, 5)))
        self.assertEqual(turn_of(board, (0, 1, 0, 1), LIMIT), 625 * LIMIT)


class FixedAmountsTest(unittest.TestCase):
    def test_against_all_amounts(self):
        for board, loop in drawn_loops(24, 4) + rate_loops()[::7]:
            expected = [amount for amount in range(1501) if turned(board, loop, amount) == amount]
            self.assertEqual(list(fixed_amounts(board, loop, 1500)), expected)

    def test_each_bound(self):
        for board, loop in [(BOARD_A, (0, 1)), (BOARD_A, (1, 0)), (BOARD_C, (0, 1)), (SLOW_BOARD, (0, 1, 2, 3))]:
            for most in range(60):
                expected = [amount for amount in range(most + 1) if turned(board, loop, amount) == amount]
                self.assertEqual(list(fixed_amounts(board, loop, most)), expected)

    def test_the_bounds_0_and_1(self):
        board = (2, ((0, 1, 1, 1), (1, 0, 1, 1), (1, 0, 2, 2)))
        self.assertEqual(list(fixed_amounts(board, (0, 1), 0)), [0])
        self.assertEqual(list(fixed_amounts(board, (0, 1), 1)), [0, 1])
        self.assertEqual(list(fixed_amounts(board, (0, 2), 1)), [0])
        self.assertEqual(list(fixed_amounts(BOARD_C, (0, 1), 1)), [0])

    def test_the_greatest_bound(self):
        most = 10 ** 5
        board = (2, ((0, 1, 5, 5), (1, 0, 1, 1), (1, 0, 5, 4), (1, 0, 4, 5), (0, 1, 1, 1)))
        self.assertEqual(list(fixed_amounts(board, (0, 1), most)), list(range(0, most + 1, 5)))
        self.assertEqual(list(fixed_amounts(board, (4, 1), most)), list(range(most + 1)))
        self.assertEqual(list(fixed_amounts(board, (4, 2), most)), [0])
        expected = [amount for amount in range(most + 1) if turned(SLOW_BOARD, (0, 1, 2, 3), amount) == amount]
        self.assertEqual(list(fixed_amounts(SLOW_BOARD, (0, 1, 2, 3), most)), expected)

    def test_a_generator(self):
        amounts = fixed_amounts(BOARD_A, (0, 1), 100)
        self.assertTrue(inspect.isgenerator(amounts))
        self.assertEqual([next(amounts), next(amounts)], [0, 3])
        self.assertRaises(StopIteration, next, amounts)

    def test_the_first_ones_without_the_rest(self):
        board = (2, ((0, 1, 3, 3), (1, 0, 1, 1)))
        amounts = fixed_amounts(board, (0, 1), 10 ** 5)
        self.assertEqual([next(amounts) for repeat in range(4)], [0, 3, 6, 9])
        others = fixed_amounts(board, (0, 1), 10 ** 5)
        self.assertEqual([next(others), next(amounts), next(others)], [0, 12, 3])
        amounts.close()


class FateTest(unittest.TestCase):
    def test_against_turning(self):
        chooser = random.Random(25)
        for board, loop in drawn_loops(26, 4) + rate_loops():
            for amount in [0, 1, 2, 3, 10] + [chooser.randint(0, most) for most in (200, 2000, LIMIT)]:
                self.assertEqual(fate_of(board, loop, amount), fate_by_turning(board, loop, amount))

    def test_all_small_amounts(self):
        few = [(BOARD_A, (0, 1)), (BOARD_C, (0, 1)), (LATE_BOARD, (0, 1, 2, 3)), (SLOW_BOARD, (1, 2, 3, 0))]
        for board, loop in few:
            for amount in range(1400):
                self.assertEqual(fate_of(board, loop, amount), fate_by_turning(board, loop, amount))

    def test_many_turns(self):
        loop = (0, 1, 2, 3)
        self.assertEqual(fate_of(SLOW_BOARD, loop, 688), ("rises", 759))
        self.assertEqual(fate_of(SLOW_BOARD, loop, 759), ("stays", 759))
        self.assertEqual(fate_of(SLOW_BOARD, loop, 760), ("grows",))
        falling = (4, tuple((source, to, get, give) for source, to, give, get in LATE_BOARD[1]))
        self.assertEqual(fate_of(falling, loop, LIMIT), ("falls", 0))

    def test_loops_that_keep(self):
        board = (2, ((0, 1, 3, 5), (1, 0, 5, 3)))
        self.assertEqual(fate_of(board, (0, 1), LIMIT), ("falls", LIMIT - 1))
        self.assertEqual(fate_of(board, (0, 1), LIMIT - 1), ("stays", LIMIT - 1))
        self.assertEqual(fate_of(board, (1, 0), 4), ("falls", 0))

    def test_the_words_of_the_document(self):
        """It stays, or it comes to the next fixed amount below or above it, or there is none above it."""
        for board, loop in drawn_loops(27, 2) + rate_loops()[::5]:
            fixed = [amount for amount in range(4 * LATEST_GROWTH) if turned(board, loop, amount) == amount]
            for amount in list(range(40)) + [300, 700, 1100, 1269, 1270]:
                turn = turned(board, loop, amount)
                if turn == amount:
                    expected = ("stays", amount)
                elif turn < amount:
                    expected = ("falls", max(each for each in fixed if each < amount))
                else:
                    above = [each for each in fixed if each > amount]
                    expected = ("rises", above[0]) if above else ("grows",)
                self.assertEqual(fate_of(board, loop, amount), expected)


class GrowthTest(unittest.TestCase):
    def check(self, board, loop):
        give, get = products(board, loop)
        start = growth_start(board, loop)
        if get <= give:
            self.assertIsNone(start)
            for amount in (1, 1000, LIMIT):
                self.assertNotEqual(fate_by_turning(board, loop, amount), ("grows",))
        else:
            self.assertIs(type(start), int)
            self.assertEqual(fate_by_turning(board, loop, start), ("grows",))
            self.assertNotEqual(fate_by_turning(board, loop, start - 1), ("grows",))
            for amount in range(start, start + 50):
                self.assertGreater(turned(board, loop, amount), amount)

    def check_fixed(self, board, loop):
        give, get = products(board, loop)
        if get == give:
            self.assertIsNone(greatest_fixed(board, loop))
            self.assertEqual(turned(board, loop, give * 10 ** 20), give * 10 ** 20)
        else:
            fixed = [amount for amount in range(LATEST_GROWTH + 1) if turned(board, loop, amount) == amount]
            self.assertEqual(greatest_fixed(board, loop), fixed[-1])

    def test_all_rates_of_two_counters(self):
        for board, loop in rate_loops():
            self.check(board, loop)
            self.check_fixed(board, loop)

    def test_drawn_loops(self):
        for board, loop in drawn_loops(28, 8):
            self.check(board, loop)
            self.check_fixed(board, loop)

    def test_products_less_equal_and_greater(self):
        kinds = [0, 0, 0]
        for board, loop in drawn_loops(28, 8):
            give, get = products(board, loop)
            kinds[(get > give) - (get < give)] += 1
        self.assertGreater(min(kinds), 20)

    def test_the_latest_growth(self):
        self.assertEqual(growth_start(LATE_BOARD, (0, 1, 2, 3)), LATEST_GROWTH)
        self.assertEqual(greatest_fixed(LATE_BOARD, (0, 1, 2, 3)), LATEST_GROWTH - 1)
        self.assertEqual(growth_start(SLOW_BOARD, (0, 1, 2, 3)), 760)
        self.assertEqual(greatest_fixed(SLOW_BOARD, (0, 1, 2, 3)), 759)

    def test_growth_from_the_first_coin(self):
        board = (2, ((0, 1, 1, 2), (1, 0, 1, 1), (1, 0, 5, 5)))
        self.assertEqual([growth_start(board, (0, 1)), greatest_fixed(board, (0, 1))], [1, 0])
        self.assertEqual([growth_start(board, (0, 2)), greatest_fixed(board, (0, 2))], [3, 0])

    def test_a_last_amount_that_is_not_fixed(self):
        self.assertEqual([growth_start(BOARD_C, (0, 1)), greatest_fixed(BOARD_C, (0, 1))], [2, 0])
        self.assertEqual(turned(BOARD_C, (0, 1), 1), 0)

    def test_no_growth(self):
        board = (2, ((0, 1, 2, 1), (1, 0, 1, 1), (1, 0, 1, 2)))
        self.assertEqual([growth_start(board, (0, 1)), greatest_fixed(board, (0, 1))], [None, 0])
        self.assertEqual([growth_start(board, (0, 2)), greatest_fixed(board, (0, 2))], [None, None])


class LoopsAtTest(unittest.TestCase):
    def test_against_listing(self):
        for board in sample_boards() + loop_boards():
            for kind in range(board[0]):
                loops = loops_at(board, kind)
                self.assertEqual(loops, loops_by_listing(board, kind))
                self.assertIs(type(loops), tuple)
                self.assertTrue(all(one < other for one, other in itertools.pairwise(loops)))
                for loop in loops:
                    self.assertIs(is_loop(board, loop), True)

    def test_many_loops(self):
        board = (2, ((0, 1, 1, 1), (1, 0, 2, 2)) * 4)
        expected = tuple((out, back) for out in (0, 2, 4, 6) for back in (1, 3, 5, 7))
        self.assertEqual(loops_at(board, 0), expected)
        self.assertEqual(loops_at(board, 1), tuple((back, out) for back in (1, 3, 5, 7) for out in (0, 2, 4, 6)))

    def test_loops_of_different_lengths(self):
        board = (4, ((0, 1, 1, 1), (1, 2, 1, 1), (2, 3, 1, 1), (3, 0, 1, 1), (1, 0, 1, 1), (2, 0, 1, 1), (2, 1, 1, 1)))
        self.assertEqual(loops_at(board, 0), ((0, 1, 2, 3), (0, 1, 5), (0, 4)))
        self.assertEqual(loops_at(board, 3), ((3, 0, 1, 2),))

    def test_no_loops(self):
        self.assertEqual(loops_at((1, ()), 0), ())
        for kind in range(3):
            self.assertEqual(loops_at(BOARD_G, kind), ())


if __name__ == "__main__":
    unittest.main()
