"""The guarantees of the document for routes, greatest numbers and loops, on drawn boards."""

import random
import unittest

from coincounters.best import (
    best_from, best_within, certificate_holds, find_certificate, least_needed, needed_counters,
)
from coincounters.boards import merged, renamed, with_counter
from coincounters.loops import fate_of, growth_start, loops_at, turn_of
from coincounters.routes import amounts_within, run
from tests.samples import LIMIT, all_counters, drawn_route, drawn_starts, loop_boards, sample_boards


def at_most(number, other):
    """Whether a greatest number, or a least amount, is at most another one, where None is greater than all."""
    return other is None or number is not None and number <= other


def many_boards():
    return sample_boards() + loop_boards()


class RouteGuaranteesTest(unittest.TestCase):
    def test_more_coins_are_never_worse(self):
        chooser = random.Random(51)
        for board, kind, amount in drawn_starts(52, many_boards(), 4):
            route = drawn_route(board, kind, chooser.choice([1, 3, 10, 200]), chooser)
            more = amount + chooser.choice([1, 2, 7, 1000])
            self.assertLessEqual(run(board, kind, amount, route)[1], run(board, kind, more, route)[1])
            for number, other in zip(best_from(board, kind, amount), best_from(board, kind, more)):
                self.assertTrue(at_most(number, other))

    def test_two_amounts_together_give_at_least_as_much(self):
        chooser = random.Random(53)
        for board, kind, amount in drawn_starts(54, many_boards(), 4):
            route = drawn_route(board, kind, chooser.choice([1, 3, 10, 200]), chooser)
            other = chooser.choice([1, 2, 9, chooser.randint(0, LIMIT)])
            apart = run(board, kind, amount, route)[1] + run(board, kind, other, route)[1]
            self.assertLessEqual(apart, run(board, kind, amount + other, route)[1])


class WishGuaranteesTest(unittest.TestCase):
    def drawn_wishes(self, seed):
        chooser = random.Random(seed)
        for board, kind, amount in drawn_starts(seed, many_boards(), 3):
            target = chooser.randrange(board[0])
            yield board, kind, amount, target, chooser.randint(1, chooser.choice([5, 50, 2000, LIMIT]))

    def test_a_ceiling_or_a_route_and_never_both(self):
        for board, kind, amount, target, wanted in self.drawn_wishes(55):
            wish = (board, kind, amount, target, wanted)
            value = find_certificate(*wish)
            self.assertIs(certificate_holds(*wish, value), True)
            ceiling = ("ceiling", best_from(board, kind, amount))
            self.assertIs(certificate_holds(*wish, ceiling), value[0] == "ceiling")
            # The loop of a growth makes as many coins as are wanted, by a route of some length.
            if value[0] == "growth":
                end, coins = run(board, kind, amount, value[1])
                while run(board, end, coins, value[3])[1] < wanted:
                    self.assertGreater(turn_of(board, value[2], coins), coins)
                    coins = turn_of(board, value[2], coins)

    def test_no_route_rises_above_a_ceiling(self):
        chooser = random.Random(56)
        for board, kind, amount, target, wanted in self.drawn_wishes(57):
            if find_certificate(board, kind, amount, target, wanted)[0] == "ceiling":
                self.assertLess(best_within(board, kind, amount, 100)[target], wanted)
                for repeat in range(5):
                    route = drawn_route(board, kind, chooser.randint(0, 50), chooser)
                    self.assertFalse(certificate_holds(board, kind, amount, target, wanted, ("route", route)))

    def test_an_amount_is_enough_exactly_from_the_least_one_on(self):
        for board, kind, amount, target, wanted in self.drawn_wishes(58):
            least = least_needed(board, kind, target, wanted)
            near = [] if least is None else [max(least - 1, 0), least, least + 1]
            for each in [amount] + near:
                word = find_certificate(board, kind, each, target, wanted)[0]
                self.assertIs(word != "ceiling", least is not None and each >= least)


class FateGuaranteeTest(unittest.TestCase):
    def test_each_amount_has_one_of_the_four_fates(self):
        chooser = random.Random(59)
        seen = set()
        for board in loop_boards():
            for loop in loops_at(board, 0):
                start = growth_start(board, loop)
                near = [] if start is None else [start - 1, start]
                for amount in [0, 1, 5, chooser.randint(0, 100), chooser.randint(0, LIMIT), *near]:
                    fate = fate_of(board, loop, amount)
                    seen.add(fate[0])
                    self.assertIs(fate == ("grows",), start is not None and amount >= start)
                    if fate[0] != "grows":
                        self.assertEqual(turn_of(board, loop, fate[1]), fate[1])
                        order = {"falls": fate[1] < amount, "stays": fate[1] == amount, "rises": fate[1] > amount}
                        self.assertTrue(order[fate[0]])
        self.assertEqual(seen, {"falls", "stays", "rises", "grows"})


class ChangedBoardGuaranteesTest(unittest.TestCase):
    def test_a_further_counter_is_never_worse(self):
        chooser = random.Random(60)
        for board, kind, amount in drawn_starts(61, many_boards(), 4):
            if board[0] == 1 or len(board[1]) == 8:
                continue
            more = with_counter(board, chooser.choice(all_counters(board[0])))
            for number, other in zip(best_from(board, kind, amount), best_from(more, kind, amount)):
                self.assertTrue(at_most(number, other))
            target, wanted = chooser.randrange(board[0]), chooser.randint(1, 3000)
            least = least_needed(board, kind, target, wanted)
            self.assertTrue(at_most(least_needed(more, kind, target, wanted), least))

    def test_renamed_kinds_change_only_the_names(self):
        chooser = random.Random(62)
        for board, kind, amount in drawn_starts(63, many_boards(), 2):
            names = tuple(chooser.sample(range(board[0]), board[0]))
            other = renamed(board, names)
            numbers, renamed_numbers = best_from(board, kind, amount), best_from(other, names[kind], amount)
            amounts = amounts_within(board, kind, amount, 3)
            renamed_amounts = amounts_within(other, names[kind], amount, 3)
            for each in range(board[0]):
                self.assertEqual(numbers[each], renamed_numbers[names[each]])
                self.assertEqual(amounts[each], renamed_amounts[names[each]])
                self.assertEqual(loops_at(board, each), loops_at(other, names[each]))
                for wanted in (1, 10, 1000):
                    least = least_needed(board, kind, each, wanted)
                    self.assertEqual(least, least_needed(other, names[kind], names[each], wanted))
                    word = find_certificate(board, kind, amount, each, wanted)[0]
                    self.assertEqual(word, find_certificate(other, names[kind], amount, names[each], wanted)[0])
            self.assertEqual(needed_counters(board, kind, amount), needed_counters(other, names[kind], amount))

    def test_counters_in_another_order(self):
        chooser = random.Random(64)
        for board, kind, amount in drawn_starts(65, many_boards(), 2):
            order = chooser.sample(range(len(board[1])), len(board[1]))
            other = (board[0], tuple(board[1][index] for index in order))
            self.assertEqual(best_from(board, kind, amount), best_from(other, kind, amount))
            self.assertEqual(best_within(board, kind, amount, 20), best_within(other, kind, amount, 20))
            self.assertEqual(amounts_within(board, kind, amount, 4), amounts_within(other, kind, amount, 4))
            needed = tuple(sorted(order[index] for index in needed_counters(other, kind, amount)))
            self.assertEqual(needed_counters(board, kind, amount), needed)
            loops = sorted(tuple(order[index] for index in loop) for loop in loops_at(other, kind))
            self.assertEqual(loops_at(board, kind), tuple(loops))
            for target in range(board[0]):
                self.assertEqual(least_needed(board, kind, target, 77), least_needed(other, kind, target, 77))

    def test_boards_merged_apart(self):
        chooser = random.Random(66)
        few = [board for board in many_boards() if board[0] <= 2 and len(board[1]) <= 4]
        for board, kind, amount in drawn_starts(67, few, 5):
            beside = chooser.choice(few)
            before, behind = merged(beside, board, apart=True), merged(board, beside, apart=True)
            first, others = beside[0], (0,) * beside[0]
            numbers = best_from(board, kind, amount)
            self.assertEqual(best_from(behind, kind, amount), numbers + others)
            self.assertEqual(best_from(before, first + kind, amount), others + numbers)
            needed = needed_counters(board, kind, amount)
            self.assertEqual(needed_counters(behind, kind, amount), needed)
            shifted = tuple(len(beside[1]) + index for index in needed)
            self.assertEqual(needed_counters(before, first + kind, amount), shifted)
            for target in range(board[0]):
                least = least_needed(board, kind, target, 50)
                self.assertEqual(least_needed(behind, kind, target, 50), least)
                self.assertEqual(least_needed(before, first + kind, first + target, 50), least)
            self.assertIsNone(least_needed(behind, kind, board[0], 1))
            self.assertIsNone(least_needed(before, first + kind, 0, 1))


class CallsTest(unittest.TestCase):
    def test_equal_calls_return_equal_results(self):
        for board, kind, amount in drawn_starts(68, many_boards(), 1):
            copy = (board[0], tuple(tuple(list(counter)) for counter in board[1]))
            for target in range(board[0]):
                value = find_certificate(board, kind, amount, target, 5)
                best_from(copy, target, 1)
                self.assertEqual(find_certificate(copy, kind, amount, target, 5), value)
            self.assertEqual(copy, board)


if __name__ == "__main__":
    unittest.main()
