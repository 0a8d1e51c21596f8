"""The guarantees of the document, seen through purses, on drawn boards and edits."""

import random
import unittest

from coincounters.best import best_from, certificate_holds, least_needed
from coincounters.purses import Purse
from coincounters.routes import run
from coincounters.texts import parse_purse, purse_text
from tests.purse_case import edited_purse
from tests.purse_model import answers, view
from tests.reference import is_right_certificate
from tests.samples import LIMIT, all_counters, damaged, drawn_starts, loop_boards, sample_boards


def drawn_purses(seed, many):
    """Purses after some edits and undos, the same ones in each run."""
    chooser = random.Random(seed)
    for board, kind, amount in drawn_starts(seed, sample_boards() + loop_boards()[::2], many):
        purse = edited_purse(board, kind, amount, chooser.randint(0, 8), chooser.random())[0]
        for repeat in range(chooser.randint(0, len(purse))):
            purse.undo()
        yield purse


def is_at_most(number, other):
    return other is None or number is not None and number <= other


class PurseGuaranteesTest(unittest.TestCase):
    def check_not_worse(self, before, after):
        for number, other in zip(before, after, strict=True):
            self.assertTrue(is_at_most(number, other))

    def test_more_coins_are_never_worse(self):
        chooser = random.Random(171)
        for purse in drawn_purses(172, 2):
            before = purse.best
            more = chooser.choice([1, 2, 50, 1000])
            if purse.amount + more <= LIMIT:
                purse.earn(more)
                self.check_not_worse(before, purse.best)

    def test_a_further_counter_makes_no_greatest_number_less(self):
        chooser = random.Random(173)
        for purse in drawn_purses(174, 2):
            kinds, counters = purse.board
            before = purse.best
            if kinds > 1 and len(counters) < 8:
                purse.put_up(chooser.choice(all_counters(kinds)))
                self.check_not_worse(before, purse.best)
                purse.undo()
            if counters:
                purse.close(chooser.randrange(len(counters)))
                self.check_not_worse(purse.best, before)

    def test_a_change_makes_no_greatest_number_greater(self):
        for purse in drawn_purses(175, 2):
            for index, counter in enumerate(purse.board[1]):
                coins = purse.amount // counter[2] * counter[3]
                if counter[0] == purse.kind and coins <= LIMIT:
                    before = purse.best
                    purse.change(index)
                    self.check_not_worse(purse.best, before)
                    purse.undo()

    def drawn_wishes(self, seed):
        chooser = random.Random(seed)
        for purse in drawn_purses(seed, 1):
            for target in range(purse.board[0]):
                number = purse.best[target] or 0
                near = [1, number - 1, number, number + 1, chooser.randint(1, 60), chooser.randint(1, LIMIT)]
                for wanted in near:
                    if 1 <= wanted <= LIMIT:
                        yield purse, target, wanted

    def test_a_ceiling_or_a_route_and_never_both(self):
        seen = set()
        for purse, target, wanted in self.drawn_wishes(176):
            value = purse.certificate(target, wanted)
            seen.add(value[0])
            self.assertIs(certificate_holds(*purse.state(), target, wanted, value), True)
            self.assertTrue(is_right_certificate(*purse.state(), target, wanted, value))
            ceiling = ("ceiling", purse.best)
            self.assertIs(certificate_holds(*purse.state(), target, wanted, ceiling), value[0] == "ceiling")
            shown = list(purse.walk(target, wanted))
            route = tuple(index for index, kind, amount in shown)
            enough = certificate_holds(*purse.state(), target, wanted, ("route", route))
            if value[0] == "ceiling":
                self.assertEqual(shown, [])
                self.assertFalse(enough)
            if value[0] == "route":
                self.assertEqual(value, ("route", route))
            if shown:
                self.assertTrue(enough)
                self.assertEqual(shown[-1][1:], run(*purse.state(), route))
        self.assertEqual(seen, {"ceiling", "route", "growth"})

    def test_enough_exactly_from_the_least_amount_on(self):
        for purse, target, wanted in self.drawn_wishes(177):
            least = least_needed(purse.board, purse.kind, target, wanted)
            enough = least is not None and purse.amount >= least
            self.assertIs(purse.certificate(target, wanted)[0] != "ceiling", enough)
            if least is not None and least <= LIMIT:
                self.assertNotEqual(Purse(purse.board, purse.kind, least).certificate(target, wanted)[0], "ceiling")
                less = Purse(purse.board, purse.kind, least - 1)
                self.assertEqual(less.certificate(target, wanted)[0], "ceiling")

    def test_what_is_accepted_is_correct(self):
        for purse, target, wanted in list(self.drawn_wishes(178))[::40]:
            for value in damaged(purse.certificate(target, wanted)):
                right = is_right_certificate(*purse.state(), target, wanted, value)
                self.assertIs(certificate_holds(*purse.state(), target, wanted, value), right)

    def test_only_the_state_counts(self):
        for purse in drawn_purses(179, 1):
            wishes = [(target, wanted) for target in range(purse.board[0]) for wanted in (1, 20, LIMIT)]
            fresh = Purse(*purse.state())
            read = Purse.read(purse_text(*purse.state()))
            for other in (fresh, read):
                self.assertEqual(repr((other.state(), other.best)), repr((purse.state(), purse.best)))
                self.assertEqual(answers(other, wishes), answers(purse, wishes))
                self.assertTrue(other == purse)
            self.assertEqual(purse.best, best_from(*purse.state()))
            self.assertEqual(parse_purse(purse_text(*purse.state())), purse.state())

    def test_queries_change_nothing(self):
        for purse in drawn_purses(180, 1):
            before = view(purse)
            answers(purse, [(0, 1), (0, LIMIT)])
            self.assertEqual(view(purse), before)


if __name__ == "__main__":
    unittest.main()
