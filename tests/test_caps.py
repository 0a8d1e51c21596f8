"""Cap and CappedPurse."""

import random
import unittest

from coincounters.boards import board_error
from coincounters.caps import Cap
from coincounters.purses import CappedPurse, Purse
from tests.purse_case import (
    WRONG_AMOUNTS, WRONG_NUMBERS, PurseCase, drawn_edit, drawn_wishes, purse_and_model,
)
from tests.purse_model import answers, view
from tests.samples import BOARD_A, FULL_BOARD, LIMIT, damaged, drawn_starts, loop_boards, sample_boards

CAPS = [0, 1, 10, 12345, LIMIT - 1, LIMIT]


class CapTest(PurseCase):
    def test_most(self):
        for most in CAPS:
            cap = Cap(most)
            self.assertIs(type(cap.most), int)
            self.assertEqual(cap.most, most)
            self.assertEqual(vars(cap)["most"], most)

    def test_values_that_are_no_amount(self):
        for value in WRONG_AMOUNTS:
            self.refused("BadAmount", {"value": value}, Cap, value)
            for most in CAPS:
                self.refused("BadAmount", {"value": value}, Cap(most).room, value)

    def test_room(self):
        for most in CAPS:
            cap = Cap(most)
            for coins in {0, 1, 9, 10, 11, most - 1, most, most + 1, most // 2, LIMIT - 1, LIMIT}:
                if coins < 0 or coins > LIMIT:
                    self.refused("BadAmount", {"value": coins}, cap.room, coins)
                elif coins > most:
                    self.refused("OverCap", {"coins": coins}, cap.room, coins)
                else:
                    self.assertEqual(repr(cap.room(coins)), repr(most - coins))
            self.assertEqual(cap.most, most)

    def test_bools_right_after_the_equal_numbers(self):
        self.assertEqual([Cap(1).most, Cap(0).most, Cap(1).room(1), Cap(1).room(0)], [1, 0, 0, 1])
        for value in (True, False):
            self.refused("BadAmount", {"value": value}, Cap, value)
            self.refused("BadAmount", {"value": value}, Cap(1).room, value)
            self.refused("BadAmount", {"value": value}, Cap(0).room, value)


class NewCappedPurseTest(PurseCase):
    def test_bases(self):
        self.assertTrue(issubclass(CappedPurse, Purse))
        self.assertTrue(issubclass(CappedPurse, Cap))
        self.assertFalse(issubclass(Purse, Cap))
        self.assertFalse(issubclass(Cap, Purse))

    def test_it_shows_what_a_purse_shows(self):
        for board, kind, amount in drawn_starts(151, sample_boards() + loop_boards(), 1):
            for most in (amount, LIMIT):
                purse = CappedPurse(board, kind, amount, most)
                self.assertEqual(view(purse), view(Purse(board, kind, amount)))
                self.assertEqual([purse.most, purse.room(amount)], [most, most - amount])
                self.assertEqual({"board", "kind", "amount", "best", "most"} - set(vars(purse)), set())

    def test_over_the_cap(self):
        for most in CAPS:
            for amount in (most + 1, most + 2, 2 * most + 1, LIMIT):
                if most < amount <= LIMIT:
                    self.refused("OverCap", {"coins": amount}, CappedPurse, BOARD_A, 0, amount, most)

    def test_errors_in_the_listed_order(self):
        for board in [board for board in damaged(BOARD_A) if board_error(board) is not None]:
            error = board_error(board)
            for others in [(0, 5, 9), (None, 5, 9), (0, None, 9), (0, 5, None), (None, None, None), (0, 9, 5)]:
                self.refused("BadBoard", {"error": error}, CappedPurse, board, *others)
        for kind in WRONG_NUMBERS + [2]:
            for others in [(5, 9), (None, 9), (5, None), (None, None), (9, 5)]:
                self.refused("NoKind", {"value": kind}, CappedPurse, BOARD_A, kind, *others)
        for amount in WRONG_AMOUNTS:
            for most in (9, 0, LIMIT, "None", [], -5):
                self.refused("BadAmount", {"value": amount}, CappedPurse, BOARD_A, 0, amount, most)
        for most in WRONG_AMOUNTS:
            for amount in (0, 9, LIMIT):
                self.refused("BadAmount", {"value": most}, CappedPurse, BOARD_A, 0, amount, most)


class CappedEditsTest(PurseCase):
    def test_drawn_edits_and_undos(self):
        chooser = random.Random(152)
        refused = 0
        for board, kind, amount in drawn_starts(153, sample_boards() + loop_boards()[::4], 1):
            most = chooser.choice([amount, min(amount + 5, LIMIT), min(2 * amount, LIMIT), LIMIT])
            purse, model = purse_and_model(board, kind, amount, most)
            for repeat in range(25):
                if chooser.random() < 0.2:
                    self.check_undo(purse, model)
                else:
                    name, value = drawn_edit(model, chooser)
                    refused += (model.fault(name, value) or [""])[0] == "OverCap"
                    self.check_edit(purse, model, name, value)
                self.assertEqual(purse.room(purse.amount), most - purse.amount)
        self.assertGreater(refused, 100)

    def test_around_the_cap(self):
        for most in (9, 10, 11, 100):
            for amount in range(0, 10):
                for coins in range(1, 13):
                    self.check_edit(*purse_and_model(BOARD_A, 0, amount, most), "earn", coins)
                self.check_edit(*purse_and_model((2, ((0, 1, 2, 5),)), 0, amount, most), "change", 0)

    def test_over_the_cap_after_all_other_errors(self):
        board = (2, ((0, 1, 1, 5), (1, 0, 1, 5)))
        purse = CappedPurse(board, 0, 10, 12)
        self.refused_without_change(purse, "OverCap", {"coins": 50}, purse.change, 0)
        self.refused_without_change(purse, "WrongKind", {"source": 1}, purse.change, 1)
        self.refused_without_change(purse, "NoCounter", {"value": 2}, purse.change, 2)
        self.refused_without_change(purse, "OverCap", {"coins": 13}, purse.earn, 3)
        self.refused_without_change(purse, "TooMuch", {"coins": LIMIT + 1}, purse.earn, LIMIT - 9)
        self.refused_without_change(purse, "OverCap", {"coins": LIMIT}, purse.earn, LIMIT - 10)
        self.refused_without_change(purse, "BadCoins", {"value": LIMIT + 1}, purse.earn, LIMIT + 1)
        rich = CappedPurse(board, 0, LIMIT, LIMIT)
        self.refused_without_change(rich, "TooMuch", {"coins": 5 * LIMIT}, rich.change, 0)
        self.refused_without_change(rich, "TooMuch", {"coins": LIMIT + 1}, rich.earn, 1)
        full = CappedPurse(board, 0, 0, 60)
        for repeat in range(60):
            full.earn(1)
        self.refused_without_change(full, "TooManyEdits", {}, full.earn, 1)
        self.refused_without_change(full, "TooManyEdits", {}, full.change, 0)

    def test_busy_before_the_cap(self):
        purse = CappedPurse(BOARD_A, 0, 4, 5)

        def watch(seen):
            self.refused("Busy", {}, seen.change, 0)
            self.refused("Busy", {}, seen.earn, 100)
            self.assertEqual([seen.room(seen.amount), seen.room(0), seen.most], [0, 5, 5])
            self.refused("OverCap", {"coins": 6}, seen.room, 6)

        self.assertEqual(purse.attempt([("earn", 1)], watch=watch), 1)

    def test_in_a_batch(self):
        purse = CappedPurse(BOARD_A, 0, 2, 5)
        for batch, index in [([("earn", 4)], 0), ([("earn", 2), ("change", 0)], 1), ([("earn", 1)] * 20, 3)]:
            self.refused_without_change(purse, "Rejected", {"index": index}, purse.attempt, batch)
        self.assertEqual([purse.attempt([("earn", 1)] * 3), purse.amount, purse.room(5)], [3, 5, 0])

    def test_a_batch_that_is_ended_below_the_cap(self):
        purse = CappedPurse(BOARD_A, 0, 2, 5)
        self.assertEqual(purse.attempt([("earn", 1)] * 20, watch=lambda seen: seen.room(seen.amount) == 0), 3)

    def test_undo_put_up_and_close_are_never_refused(self):
        for most in (0, 5):
            purse, model = purse_and_model(BOARD_A, 0, most, most)
            for name, value in [("put_up", (0, 1, 1, 5)), ("close", 0), ("put_up", (1, 0, 1, 5))]:
                self.assertIsNone(model.fault(name, value))
                self.check_edit(purse, model, name, value)
            for repeat in range(4):
                self.check_undo(purse, model)
        purse = CappedPurse((2, ((0, 1, 5, 1),)), 0, 5, 5)
        self.assertEqual([purse.change(0), purse.amount, purse.undo(), purse.amount], [1, 1, 0, 5])

    def test_queries_do_not_look_at_the_cap(self):
        chooser = random.Random(154)
        for board, kind, amount in drawn_starts(155, sample_boards()[::2] + loop_boards()[::4], 1):
            capped, purse = CappedPurse(board, kind, amount, amount), Purse(board, kind, amount)
            wishes = drawn_wishes(board, chooser, 4)
            self.assertEqual(answers(capped, wishes), answers(purse, wishes))
            self.assertEqual(capped.best, purse.best)

    def test_two_capped_purses_share_nothing(self):
        one, other = CappedPurse(FULL_BOARD, 0, 5, 9), CappedPurse(FULL_BOARD, 0, 5, 5)
        self.assertEqual([one.earn(4), one.room(9), other.room(5)], [1, 0, 0])
        self.refused_without_change(other, "OverCap", {"coins": 6}, other.earn, 1)


if __name__ == "__main__":
    unittest.main()
