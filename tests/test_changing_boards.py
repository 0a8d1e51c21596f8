import inspect
import itertools
import unittest

from coincounters import boards
from coincounters.boards import changed, is_board, merged, renamed, with_counter, without_counter
from coincounters.errors import TooManyCounters, TooManyKinds
from tests.samples import BOARD_A, FULL_BOARD, all_counters, sample_boards


class InterfaceTest(unittest.TestCase):
    def test_each_function_is_defined_in_its_file(self):
        signatures = {
            "is_board": "(value)",
            "board_error": "(value)",
            "changed": "(counter, amount)",
            "with_counter": "(board, counter)",
            "without_counter": "(board, index)",
            "merged": "(*boards, apart=False)",
            "renamed": "(board, names)",
        }
        for name, signature in signatures.items():
            with self.subTest(name=name):
                function = getattr(boards, name)
                self.assertEqual(function.__module__, "coincounters.boards")
                self.assertEqual(function.__name__, name)
                self.assertEqual(str(inspect.signature(function)), signature)


class ChangedTest(unittest.TestCase):
    def test_all_rates_by_handing_in_heaps(self):
        for counter in all_counters(2):
            give, get = counter[2:]
            coins, heap = 0, 0
            for amount in range(60):
                self.assertEqual(changed(counter, amount), coins, (counter, amount))
                heap += 1
                if heap == give:
                    coins, heap = coins + get, 0

    def test_amounts_around_multiples_up_to_the_limit(self):
        for counter in all_counters(2):
            give, get = counter[2:]
            for heaps in (1, 2, 7, 10 ** 6 + 1, 10 ** 11, 10 ** 12 // give):
                self.assertEqual(changed(counter, heaps * give), heaps * get)
                self.assertEqual(changed(counter, heaps * give + give - 1), heaps * get)
                self.assertEqual(changed(counter, heaps * give - 1), (heaps - 1) * get)

    def test_limit(self):
        self.assertEqual(changed((0, 1, 1, 5), 10 ** 12), 5 * 10 ** 12)
        self.assertEqual(changed((0, 1, 3, 1), 10 ** 12), 333333333333)
        self.assertEqual(changed((0, 1, 5, 5), 10 ** 12 - 1), 10 ** 12 - 5)

    def test_the_kinds_do_not_matter(self):
        for source, to in itertools.permutations(range(4), 2):
            self.assertEqual(changed((source, to, 2, 3), 7), 9)

    def test_no_coins(self):
        for counter in all_counters(4):
            self.assertEqual(changed(counter, 0), 0)


class WithCounterTest(unittest.TestCase):
    def test_the_counter_stands_at_the_end(self):
        for board in sample_boards():
            kinds, counters = board
            if kinds == 1 or len(counters) == 8:
                continue
            for counter in all_counters(kinds)[::7]:
                result = with_counter(board, counter)
                self.assertEqual(result, (kinds, (*counters, counter)))
                self.assertTrue(is_board(result))
            self.assertEqual(board, (kinds, counters))

    def test_an_equal_counter(self):
        self.assertEqual(with_counter((2, ((0, 1, 2, 3),)), (0, 1, 2, 3)), (2, ((0, 1, 2, 3), (0, 1, 2, 3))))

    def test_up_to_eight_counters(self):
        board = (2, ())
        for many in range(1, 9):
            board = with_counter(board, (0, 1, 1, 1))
            self.assertEqual(board, (2, ((0, 1, 1, 1),) * many))
        with self.assertRaises(TooManyCounters):
            with_counter(board, (0, 1, 1, 1))

    def test_too_many_counters(self):
        for counter in all_counters(3):
            with self.assertRaises(TooManyCounters) as caught:
                with_counter(FULL_BOARD, counter)
            self.assertIs(type(caught.exception), TooManyCounters)

    def test_equal_calls(self):
        self.assertEqual(with_counter(BOARD_A, (1, 0, 3, 4)), with_counter(BOARD_A, (1, 0, 3, 4)))
        self.assertEqual(BOARD_A, (2, ((0, 1, 2, 3), (1, 0, 1, 1))))


class WithoutCounterTest(unittest.TestCase):
    def test_every_counter_left_out(self):
        for board in [BOARD_A, FULL_BOARD, *sample_boards()]:
            kinds, counters = board
            for index in range(len(counters)):
                others = tuple(counter for at, counter in enumerate(counters) if at != index)
                result = without_counter(board, index)
                self.assertEqual(result, (kinds, others))
                self.assertTrue(is_board(result))
            self.assertEqual(board, (kinds, counters))

    def test_only_one_of_equal_counters(self):
        board = (2, ((0, 1, 2, 3), (1, 0, 1, 1), (0, 1, 2, 3)))
        self.assertEqual(without_counter(board, 0), (2, ((1, 0, 1, 1), (0, 1, 2, 3))))
        self.assertEqual(without_counter(board, 2), (2, ((0, 1, 2, 3), (1, 0, 1, 1))))
        for index in range(8):
            self.assertEqual(without_counter((2, ((0, 1, 2, 3),) * 8), index), (2, ((0, 1, 2, 3),) * 7))

    def test_the_last_counter(self):
        self.assertEqual(without_counter((4, ((3, 0, 1, 1),)), 0), (4, ()))

    def test_undoes_with_counter(self):
        for board in sample_boards():
            kinds, counters = board
            if kinds > 1 and len(counters) < 8:
                self.assertEqual(without_counter(with_counter(board, (1, 0, 5, 5)), len(counters)), board)


class MergedTest(unittest.TestCase):
    def check_too_many(self, error, *several, **options):
        with self.assertRaises(error) as caught:
            merged(*several, **options)
        self.assertIs(type(caught.exception), error)

    def test_one_board(self):
        for board in [BOARD_A, FULL_BOARD, *sample_boards()]:
            self.assertEqual(merged(board), board)
            self.assertEqual(merged(board, apart=False), board)
            self.assertEqual(merged(board, apart=True), board)

    def test_several_boards(self):
        first, second, third = (2, ((1, 0, 1, 2),)), (4, ((3, 1, 5, 4), (0, 2, 1, 1))), (1, ())
        expected = (4, ((1, 0, 1, 2), (3, 1, 5, 4), (0, 2, 1, 1)))
        self.assertEqual(merged(first, second, third), expected)
        self.assertEqual(merged(first, second, third, apart=False), expected)
        self.assertEqual(merged(third, second, first), (4, ((3, 1, 5, 4), (0, 2, 1, 1), (1, 0, 1, 2))))
        self.assertEqual(merged(first, third), first)
        self.assertEqual(merged(third, first), first)

    def test_pairs_of_boards(self):
        few = [board for board in sample_boards() if len(board[1]) <= 4]
        for one, other in itertools.product(few, repeat=2):
            result = merged(one, other)
            self.assertEqual(result, (max(one[0], other[0]), one[1] + other[1]))
            self.assertTrue(is_board(result))

    def test_apart(self):
        board = (2, ((0, 1, 1, 2), (1, 0, 3, 4)))
        self.assertEqual(merged((1, ()), board, (1, ()), apart=True), (4, ((1, 2, 1, 2), (2, 1, 3, 4))))
        self.assertEqual(merged((1, ()), (1, ()), board, apart=True), (4, ((2, 3, 1, 2), (3, 2, 3, 4))))
        self.assertEqual(merged(board, (1, ()), apart=True), (3, board[1]))
        self.assertEqual(merged((2, ()), board, apart=True), (4, ((2, 3, 1, 2), (3, 2, 3, 4))))
        self.assertEqual(merged((1, ()), (3, ((2, 0, 5, 1),)), apart=True), (4, ((3, 1, 5, 1),)))
        self.assertEqual(merged((1, ()), (1, ()), (1, ()), (1, ()), apart=True), (4, ()))

    def test_nine_boards(self):
        self.assertEqual(merged(*[(1, ())] * 9), (1, ()))
        self.assertEqual(merged(*[(2, ((0, 1, 1, 2),))] * 8, (3, ())), (3, ((0, 1, 1, 2),) * 8))
        self.check_too_many(TooManyCounters, *[(2, ((0, 1, 1, 2),))] * 9)
        self.check_too_many(TooManyKinds, *[(1, ())] * 9, apart=True)
        self.check_too_many(TooManyKinds, *[(2, ((0, 1, 1, 2),))] * 9, apart=True)

    def test_too_many_counters(self):
        half = (2, ((0, 1, 1, 2),) * 4)
        self.assertEqual(merged(half, half), (2, half[1] * 2))
        self.assertEqual(merged(half, half, apart=True), (4, half[1] + ((2, 3, 1, 2),) * 4))
        self.check_too_many(TooManyCounters, half, half, (2, ((1, 0, 1, 1),)))
        self.check_too_many(TooManyCounters, half, (2, half[1] + ((1, 0, 1, 1),)), apart=True)
        self.check_too_many(TooManyCounters, FULL_BOARD, (2, ((0, 1, 1, 1),)))

    def test_too_many_kinds(self):
        self.check_too_many(TooManyKinds, (4, ()), (1, ()), apart=True)
        self.check_too_many(TooManyKinds, (3, ()), (2, ()), apart=True)
        self.check_too_many(TooManyKinds, (2, ()), (2, ()), (1, ()), apart=True)
        self.assertEqual(merged((4, ()), (4, ())), (4, ()))

    def test_too_many_kinds_come_first(self):
        self.check_too_many(TooManyKinds, FULL_BOARD, FULL_BOARD, apart=True)
        self.check_too_many(TooManyCounters, FULL_BOARD, FULL_BOARD, apart=False)

    def test_the_boards_are_not_changed(self):
        first, second = (2, ((0, 1, 1, 2),)), (2, ((1, 0, 3, 4),))
        for repeat in range(2):
            self.assertEqual(merged(first, second, apart=True), (4, ((0, 1, 1, 2), (3, 2, 3, 4))))
        self.assertEqual((first, second), ((2, ((0, 1, 1, 2),)), (2, ((1, 0, 3, 4),))))


class RenamedTest(unittest.TestCase):
    def test_the_same_names(self):
        for board in [BOARD_A, FULL_BOARD, *sample_boards()]:
            self.assertEqual(renamed(board, tuple(range(board[0]))), board)

    def test_the_opposite_order(self):
        board = (4, ((0, 1, 2, 3), (3, 0, 5, 1), (2, 1, 1, 1)))
        self.assertEqual(renamed(board, (3, 2, 1, 0)), (4, ((3, 2, 2, 3), (0, 3, 5, 1), (1, 2, 1, 1))))

    def test_a_name_is_what_a_kind_becomes_and_not_what_it_was(self):
        board = (3, ((0, 1, 2, 3), (1, 2, 4, 5), (2, 0, 1, 1)))
        self.assertEqual(renamed(board, (1, 2, 0)), (3, ((1, 2, 2, 3), (2, 0, 4, 5), (0, 1, 1, 1))))
        self.assertEqual(renamed((3, ((0, 1, 2, 3),)), (2, 0, 1)), (3, ((2, 0, 2, 3),)))

    def test_any_order(self):
        for board in sample_boards():
            kinds, counters = board
            for names in itertools.permutations(range(kinds)):
                result = renamed(board, names)
                self.assertTrue(is_board(result))
                self.assertEqual(result[0], kinds)
                self.assertEqual(len(result[1]), len(counters))
                for old, new in zip(counters, result[1]):
                    self.assertEqual(new, (names[old[0]], names[old[1]], old[2], old[3]))
            self.assertEqual(board, (kinds, counters))

    def test_back_again(self):
        for names in itertools.permutations(range(3)):
            back = tuple(names.index(kind) for kind in range(3))
            self.assertEqual(renamed(renamed(FULL_BOARD, names), back), FULL_BOARD)

    def test_one_kind(self):
        self.assertEqual(renamed((1, ()), (0,)), (1, ()))


if __name__ == "__main__":
    unittest.main()
