import copy
import itertools
import random
import unittest
from unittest import mock

from coincounters.best import best_from, best_within, certificate_holds, find_certificate, least_needed
from coincounters.errors import TooLong
from tests.reference import is_right_certificate, is_right_growth, kinds_from
from tests.samples import (
    BOARD_A, BOARD_C, BOARD_G, FULL_BOARD, HELPING_BOARD, LIMIT, SLOW_BOARD, damaged, drawn_starts, loop_boards,
    sample_boards, values_that_are_no_number, values_that_are_no_pair, values_that_are_no_tuple,
)


def drawn_wishes(seed, many):
    """Tuples of a board, a start and a wish, many of them near the greatest number, the same ones in each run."""
    chooser = random.Random(seed)
    for board, kind, amount in drawn_starts(seed, sample_boards() + loop_boards(), many):
        target = chooser.randrange(board[0])
        number = best_from(board, kind, amount)[target] or 0
        wanted = chooser.choice([1, number // 2, number, number + 1, chooser.randint(1, 50), chooser.randint(1, LIMIT)])
        yield board, kind, amount, target, min(max(wanted, 1), LIMIT)


class FindCertificateTest(unittest.TestCase):
    def check(self, board, kind, amount, target, wanted):
        """The certificate is the one that the greatest number asks for, and it is accepted."""
        value = find_certificate(board, kind, amount, target, wanted)
        wish = (board, kind, amount, target, wanted)
        number = best_from(board, kind, amount)[target]
        if number is None:
            self.assertEqual(value[0], "growth", wish)
        else:
            self.assertEqual(value[0], "route" if number >= wanted else "ceiling", wish)
        self.assertTrue(is_right_certificate(*wish, value), (wish, value))
        self.assertIs(certificate_holds(*wish, value), True, (wish, value))
        self.assertEqual(find_certificate(*wish), value)
        if value[0] == "route" and value[1]:
            self.assertLess(best_within(board, kind, amount, len(value[1]) - 1)[target], wanted)
        return value

    def test_drawn_wishes(self):
        words = [self.check(*wish)[0] for wish in drawn_wishes(41, 6)]
        for word in ("route", "growth", "ceiling"):
            self.assertGreater(words.count(word), 100)

    def test_all_small_wishes(self):
        for board in [(1, ()), BOARD_A, BOARD_C, BOARD_G, (3, FULL_BOARD[1][:6])]:
            for kind, target in itertools.product(range(board[0]), repeat=2):
                for amount, wanted in itertools.product(range(12), range(1, 14)):
                    self.check(board, kind, amount, target, wanted)

    def test_growth_even_if_a_short_route_would_be_enough(self):
        for wanted in (1, 4, 6, 100, LIMIT):
            self.assertEqual(self.check(BOARD_A, 0, 4, 0, wanted), ("growth", (), (0, 1), ()))
            self.assertEqual(self.check(BOARD_A, 0, 4, 1, wanted)[0], "growth")

    def test_growth_behind_a_route(self):
        board = (4, ((0, 1, 2, 1), (1, 2, 1, 2), (2, 1, 1, 1), (2, 3, 5, 1)))
        self.assertEqual(self.check(board, 0, 2, 3, 7), ("growth", (0,), (1, 2), (1, 3)))
        self.assertEqual(self.check(board, 0, 1, 3, 1)[0], "ceiling")

    def test_growth_of_another_kind_only(self):
        board = (3, ((0, 1, 1, 2), (1, 0, 1, 1), (2, 0, 1, 1)))
        self.assertEqual(self.check(board, 2, 5, 2, 5), ("route", ()))
        self.assertEqual(self.check(board, 2, 5, 2, 6), ("ceiling", (None, None, 5)))

    def test_growth_from_which_no_route_leads_to_the_target(self):
        # The kinds 2 and 3 grow from one coin on, but no route leads back from them.
        board = (4, ((0, 1, 1, 2), (1, 0, 4, 3), (1, 0, 3, 2), (0, 2, 1, 1), (2, 3, 1, 2), (3, 2, 1, 1)))
        self.assertEqual(self.check(board, 0, 2, 1, 1), ("growth", (0, 1, 0, 2), (0, 1), (0,)))
        self.assertEqual(self.check(board, 0, 2, 3, 1), ("growth", (3,), (4, 5), (4,)))
        self.assertEqual(self.check(board, 0, 1, 1, 2), ("route", (0,)))
        self.assertEqual(self.check(board, 0, 1, 1, 3), ("ceiling", (1, 2, None, None)))

    def test_routes_with_the_fewest_counters(self):
        self.assertEqual(self.check(BOARD_G, 0, 9, 1, 9), ("route", (0,)))
        self.assertEqual(self.check(BOARD_G, 0, 9, 1, 10), ("route", (1, 2)))
        self.assertEqual(self.check(BOARD_G, 0, 9, 0, 9), ("route", ()))
        self.assertEqual(self.check(BOARD_A, 0, 2, 0, 3), ("route", (0, 1)))

    def test_a_slow_loop(self):
        value = self.check(SLOW_BOARD, 0, 688, 0, 759)
        self.assertEqual(value, ("route", (0, 1, 2, 3) * 15))
        self.assertEqual(self.check(SLOW_BOARD, 0, 688, 0, 760)[0], "ceiling")
        self.assertEqual(self.check(SLOW_BOARD, 0, 760, 0, 1)[0], "growth")

    def test_a_growth_that_begins_late(self):
        value = self.check(HELPING_BOARD, 0, 263, 0, 1)
        self.assertEqual(len(value[1]), 42)

    def check_too_long(self, bound, wish):
        with mock.patch("coincounters.best.MAX_ROUTE", bound), self.assertRaises(TooLong) as caught:
            find_certificate(*wish)
        self.assertIs(type(caught.exception), TooLong)
        self.assertEqual(caught.exception.bound, bound)

    # No board was found on which a certificate needs more than 200 counters, so these tests lower the bound.

    def test_routes_that_would_be_too_long(self):
        wish = (SLOW_BOARD, 0, 688, 0, 759)
        for bound in (0, 1, 4, 58, 59):
            self.check_too_long(bound, wish)
        for bound in (60, 61):
            with mock.patch("coincounters.best.MAX_ROUTE", bound):
                self.assertEqual(find_certificate(*wish), ("route", (0, 1, 2, 3) * 15))
        with mock.patch("coincounters.best.MAX_ROUTE", 0):
            self.assertEqual(find_certificate(SLOW_BOARD, 0, 688, 0, 688), ("route", ()))
            self.assertEqual(find_certificate(SLOW_BOARD, 0, 688, 0, 760)[0], "ceiling")

    def test_a_growth_whose_route_would_be_too_long(self):
        wish = (HELPING_BOARD, 0, 263, 0, 1)
        for bound in (3, 40, 41):
            self.check_too_long(bound, wish)
        with mock.patch("coincounters.best.MAX_ROUTE", 42):
            self.assertEqual(len(find_certificate(*wish)[1]), 42)

    def test_no_route(self):
        self.assertEqual(self.check((2, ()), 0, LIMIT, 1, 1), ("ceiling", (LIMIT, 0)))
        self.assertEqual(self.check((2, ()), 0, 0, 0, 1), ("ceiling", (0, 0)))


class CertificateHoldsTest(unittest.TestCase):
    def check(self, wish, value):
        """It is accepted exactly if it is right by the words of the document, twice, and left as it was."""
        before = copy.deepcopy(value)
        expected = is_right_certificate(*wish, value)
        for repeat in range(2):
            self.assertIs(certificate_holds(*wish, value), expected, (wish, value))
        self.assertEqual(repr(value), repr(before))
        return expected

    def refuse(self, wish, value):
        self.assertIs(certificate_holds(*wish, value), False, (wish, value))

    def accept(self, wish, value):
        self.assertIs(certificate_holds(*wish, value), True, (wish, value))

    def test_damaged_certificates(self):
        for wish in list(drawn_wishes(42, 2))[::3]:
            value = find_certificate(*wish)
            for other in damaged(value):
                self.check(wish, other)

    def test_certificates_for_other_starts_and_wishes(self):
        wishes = [(board, *wish) for board in (BOARD_A, BOARD_C) for wish in
                  itertools.product(range(2), (0, 1, 2, 3, 4, 9), range(2), (1, 3, 4, 9))]
        values = {find_certificate(*wish) for wish in wishes}
        answers = [self.check(wish, value) for wish in wishes for value in sorted(values, key=repr)]
        self.assertGreater(answers.count(True), 100)
        self.assertGreater(answers.count(False), 100)

    def test_values_of_other_kinds(self):
        others = values_that_are_no_tuple() + values_that_are_no_pair() + values_that_are_no_number()
        for wish in [(BOARD_A, 0, 2, 1, 3), (BOARD_A, 0, 4, 1, 3), (BOARD_A, 0, 2, 1, 4), ((1, ()), 0, 0, 0, 1)]:
            for value in others:
                self.check(wish, value)
                for word in ("route", "growth", "ceiling", "Route", "routes", ""):
                    self.check(wish, (word, value))
                    self.check(wish, (word, value, value))
                    self.check(wish, (word, value, value, value))
                    self.check(wish, (word, (), (0, 1), value))
                    self.check(wish, (word, (), value, (0,)))
                    self.check(wish, (word, value, (0, 1), (0,)))

    def test_routes(self):
        wish = (BOARD_A, 0, 2, 1, 3)
        self.accept(wish, ("route", (0,)))
        self.accept(wish, ("route", (0, 1, 0)))
        self.accept(wish, ("route", (0, 1) * 99 + (0,)))
        self.refuse(wish, ("route", (0, 1) * 100 + (0,)))
        self.refuse(wish, ("route", ()))
        self.refuse(wish, ("route", (0, 1)))
        self.refuse(wish, ("route", (1,)))
        self.refuse(wish, ("route", (False,)))
        self.refuse(wish, ("route", [0]))
        self.refuse(wish, ["route", (0,)])
        self.refuse(wish, ("route", (0,), ()))
        self.refuse((BOARD_A, 0, 2, 1, 4), ("route", (0,)))
        self.refuse((BOARD_A, 0, 1, 1, 3), ("route", (0,)))

    def test_a_route_of_200_counters(self):
        self.accept((BOARD_A, 0, 3, 0, 3), ("route", (0, 1) * 100))
        self.refuse((BOARD_A, 0, 3, 0, 3), ("route", (0, 1) * 101))

    def test_growth(self):
        wish = (BOARD_A, 0, 4, 1, 10 ** 9)
        self.accept(wish, ("growth", (), (0, 1), (0,)))
        self.accept(wish, ("growth", (0,), (1, 0), ()))
        self.accept(wish, ("growth", (0, 1), (0, 1), (0, 1, 0)))
        self.refuse(wish, ("growth", (), (0, 1), ()))
        self.refuse(wish, ("growth", (), (1, 0), (0,)))
        self.refuse(wish, ("growth", (1,), (0, 1), (0,)))
        self.refuse(wish, ("growth", (0,), (0, 1), (0,)))
        self.refuse(wish, ("growth", (), (0, 1)))
        self.refuse(wish, ("growth", (), (0, 1), (0,), ()))
        self.refuse(wish, ("growth", (), (False, True), (0,)))
        self.refuse(wish, ("growth", (), (0, True), (0,)))
        self.refuse(wish, ("growth", (), (0, 1), (False,)))
        self.refuse(wish, ("growth", (False, 1), (0, 1), (0,)))
        self.refuse(wish, ("growth", [], (0, 1), (0,)))
        self.refuse(wish, ("growth", (), [0, 1], (0,)))
        self.refuse(wish, ("growth", (), (0, 1), [0]))

    def test_loops_that_do_not_grow(self):
        for amount in range(4):
            self.refuse((BOARD_A, 0, amount, 1, 1), ("growth", (), (0, 1), (0,)))
        self.refuse((SLOW_BOARD, 0, 759, 0, 1), ("growth", (), (0, 1, 2, 3), ()))
        self.accept((SLOW_BOARD, 0, 760, 0, 1), ("growth", (), (0, 1, 2, 3), ()))
        keeping = (2, ((0, 1, 1, 2), (1, 0, 2, 1)))
        self.refuse((keeping, 0, LIMIT, 0, 1), ("growth", (), (0, 1), ()))

    def test_loops_that_come_to_a_kind_twice(self):
        self.refuse((BOARD_A, 0, 9, 0, 1), ("growth", (), (0, 1, 0, 1), ()))
        board = (3, ((0, 1, 1, 2), (1, 2, 1, 2), (2, 1, 1, 1), (1, 0, 1, 1)))
        self.refuse((board, 0, 9, 0, 1), ("growth", (), (0, 1, 2, 3), ()))
        self.accept((board, 0, 9, 0, 1), ("growth", (), (0, 3), ()))
        self.accept((board, 0, 9, 0, 1), ("growth", (0,), (1, 2), (3,)))

    def test_ways_that_are_too_long(self):
        wish = (BOARD_A, 0, 4, 0, 1)
        for many in (0, 1, 2):
            self.accept(wish, ("growth", (), (0, 1), (0, 1) * many))
        for many in (3, 4, 100, 101):
            self.refuse(wish, ("growth", (), (0, 1), (0, 1) * many))

    def test_growth_with_a_long_route(self):
        wish = (BOARD_A, 0, 4, 0, 1)
        self.accept(wish, ("growth", (0, 1) * 100, (0, 1), ()))
        self.refuse(wish, ("growth", (0, 1) * 101, (0, 1), ()))

    def test_ceilings(self):
        wish = (BOARD_A, 0, 2, 1, 4)
        self.accept(wish, ("ceiling", (3, 3)))
        for ceiling in [(2, 3), (3, 2), (3, 4), (1, 0), (3, None), (None, 3), (None, None), (4, 6), (3,), (3, 3, 3), (),
                        [3, 3], (3, -1), (-1, 3), (3, "3"), (True, 3), 3, None]:
            self.refuse(wish, ("ceiling", ceiling))
        self.refuse(wish, ("ceiling", (3, 3), ()))
        self.refuse(wish, ("ceiling",))
        self.refuse((BOARD_A, 0, 2, 1, 3), ("ceiling", (3, 3)))

    def test_ceilings_higher_than_needed(self):
        board = (3, ((0, 1, 2, 1), (1, 2, 1, 1)))
        wish = (board, 0, 8, 2, 10)
        for ceiling in [(8, 4, 4), (9, 4, 4), (8, 9, 9), (19, 9, 9)]:
            self.accept(wish, ("ceiling", ceiling))
        for ceiling in [(7, 4, 4), (8, 3, 4), (8, 4, 3), (8, 9, 8), (20, 9, 9), (8, 4, 10), (None, 4, 4), (8, None, 4)]:
            self.refuse(wish, ("ceiling", ceiling))
        self.accept((board, 0, 8, 0, 9), ("ceiling", (8, None, None)))
        self.refuse((board, 0, 8, 0, 9), ("ceiling", (8, None, 10 ** 39)))
        self.accept((board, 0, 8, 0, 9), ("ceiling", (8, 10 ** 39, 10 ** 39)))
        self.refuse((board, 0, 8, 0, 9), ("ceiling", (8, 10 ** 39, 10 ** 39 - 1)))

    def test_ceilings_one_too_low(self):
        for board, kind, amount in drawn_starts(43, sample_boards() + loop_boards(), 2):
            numbers = best_from(board, kind, amount)
            for target, number in enumerate(numbers):
                if number is None:
                    continue
                wish = (board, kind, amount, target, min(number + 1, LIMIT))
                self.assertIs(self.check(wish, ("ceiling", numbers)), number < LIMIT)
                for at in range(board[0]):
                    if numbers[at]:
                        low = numbers[:at] + (numbers[at] - 1,) + numbers[at + 1:]
                        self.check(wish, ("ceiling", low))
                        if at == target:
                            self.refuse(wish, ("ceiling", low))

    def test_bools_in_ceilings_right_after_the_equal_numbers(self):
        board = (2, ((0, 1, 1, 1),))
        wish = (board, 0, 1, 1, 2)
        self.accept(wish, ("ceiling", (1, 1)))
        for ceiling in [(True, 1), (1, True), (True, True)]:
            self.refuse(wish, ("ceiling", ceiling))
        self.accept((board, 0, 0, 1, 2), ("ceiling", (0, 0)))
        self.refuse((board, 0, 0, 1, 2), ("ceiling", (False, 0)))
        self.refuse((board, 0, 0, 1, 2), ("ceiling", (0, False)))

    def test_what_is_accepted_is_correct(self):
        """Guarantee (g), against the greatest numbers and the least amounts."""
        for board, kind, amount, target, wanted in list(drawn_wishes(44, 1))[::2]:
            wish = (board, kind, amount, target, wanted)
            number = best_from(board, kind, amount)[target]
            for value in damaged(find_certificate(*wish)):
                if certificate_holds(*wish, value):
                    if value[0] == "growth":
                        self.assertIsNone(number)
                        self.assertTrue(is_right_growth(board, kind, amount, target, *value[1:]))
                    enough = number is None or number >= wanted
                    self.assertIs(enough, value[0] != "ceiling")
                    if enough:
                        self.assertIn(target, kinds_from(board, kind))
                        self.assertGreaterEqual(amount, least_needed(board, kind, target, wanted))


if __name__ == "__main__":
    unittest.main()
