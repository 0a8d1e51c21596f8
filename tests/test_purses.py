"""Purse: its attributes, edits, undo, versions and comparisons."""

import copy
import itertools
import random
import unittest
from unittest import mock

from coincounters import bounds
from coincounters.best import best_from, find_certificate
from coincounters.boards import board_error
from coincounters.purses import CappedPurse, Purse
from tests.purse_case import (
    WRONG_AMOUNTS, WRONG_NUMBERS, PurseCase, drawn_edit, drawn_wishes, edited_purse, purse_and_model, right_edit,
)
from tests.purse_model import ModelPurse, view
from tests.reference import best_by_trying, is_right_certificate
from tests.samples import (
    BOARD_A, BOARD_G, FULL_BOARD, LIMIT, SLOW_BOARD, all_counters, damaged, drawn_starts, loop_boards, sample_boards,
    values_that_are_no_number, values_that_are_no_pair, values_that_are_no_tuple,
)


class NewPurseTest(PurseCase):
    def test_boards_of_all_sizes(self):
        seen = set()
        for board, kind, amount in drawn_starts(101, sample_boards() + loop_boards(), 3):
            seen.add((board[0], len(board[1])))
            for coins in (amount, 0, 1, LIMIT):
                self.check_state(Purse(board, kind, coins), ModelPurse(board, kind, coins))
        self.assertEqual(seen, {(1, 0), *itertools.product((2, 3, 4), range(9))})

    def test_every_kind(self):
        for board in sample_boards():
            for kind in range(board[0]):
                self.assertEqual(Purse(board, kind, 7).state(), (board, kind, 7))
            self.refused("NoKind", {"value": board[0]}, Purse, board, board[0], 7)

    def test_attributes_are_set_on_the_object(self):
        attributes = vars(Purse(BOARD_A, 0, 2))
        for name, value in [("board", BOARD_A), ("kind", 0), ("amount", 2), ("best", (3, 3))]:
            self.assertEqual(attributes[name], value)

    def test_most_edits(self):
        self.assertEqual(Purse.MOST_EDITS, bounds.MAX_EDITS)
        self.assertEqual(CappedPurse.MOST_EDITS, 60)
        self.assertEqual(Purse(BOARD_A, 0, 2).MOST_EDITS, 60)
        self.assertIn("MOST_EDITS", vars(Purse))

    def wrong_boards(self):
        values = values_that_are_no_tuple() + values_that_are_no_pair() + damaged(BOARD_A) + damaged(FULL_BOARD)
        return [value for value in values if board_error(value) is not None]

    def test_values_that_are_no_board(self):
        for value in self.wrong_boards():
            before = copy.deepcopy(value)
            error = board_error(value)
            for kind, amount in [(0, 2), (None, 2), (True, False), (0, -1), ([], {})]:
                self.refused("BadBoard", {"error": error}, Purse, value, kind, amount)
            self.assertEqual(repr(value), repr(before))

    def test_what_board_error_says(self):
        self.refused("BadBoard", {"error": (None, "board")}, Purse, None, 0, 0)
        self.refused("BadBoard", {"error": (None, "kinds")}, Purse, (0, ()), 0, 0)
        self.refused("BadBoard", {"error": (None, "counters")}, Purse, (2, ((0, 1, 1, 1),) * 9), 0, 0)
        self.refused("BadBoard", {"error": (1, "counter")}, Purse, (2, ((0, 1, 1, 1), (0, 1, 1, 6))), 0, 0)

    def test_values_that_are_no_kind(self):
        for board in [(1, ()), BOARD_A, FULL_BOARD, SLOW_BOARD]:
            for value in WRONG_NUMBERS + [board[0], board[0] + 1, board]:
                for amount in (0, 5, None, True, -1, LIMIT + 1, []):
                    self.refused("NoKind", {"value": value}, Purse, board, value, amount)

    def test_values_that_are_no_amount(self):
        for board in [(1, ()), BOARD_A, FULL_BOARD]:
            for value in WRONG_AMOUNTS + [board, LIMIT + 2]:
                self.refused("BadAmount", {"value": value}, Purse, board, 0, value)
            self.assertEqual(Purse(board, 0, LIMIT).amount, LIMIT)

    def test_bools_right_after_the_equal_numbers(self):
        self.assertEqual(Purse(BOARD_A, 1, 1).state(), (BOARD_A, 1, 1))
        self.refused("NoKind", {"value": True}, Purse, BOARD_A, True, 1)
        self.refused("BadAmount", {"value": True}, Purse, BOARD_A, 1, True)
        self.assertEqual(Purse(BOARD_A, 0, 0).state(), (BOARD_A, 0, 0))
        self.refused("NoKind", {"value": False}, Purse, BOARD_A, False, 0)
        self.refused("BadAmount", {"value": False}, Purse, BOARD_A, 0, False)
        self.assertEqual(Purse((1, ()), 0, 1).best, (1,))
        self.refused("BadBoard", {"error": (None, "kinds")}, Purse, (True, ()), 0, 1)
        self.refused("BadBoard", {"error": (0, "counter")}, Purse, (2, ((False, 1, 2, 3), (1, 0, 1, 1))), 0, 1)
        self.refused("BadBoard", {"error": (1, "counter")}, Purse, (2, ((0, 1, 2, 3), (1, 0, 1, True))), 0, 1)

    def test_lists_that_are_changed_after_they_were_passed(self):
        counters = [(0, 1, 2, 3), (1, 0, 1, 1)]
        purse = Purse((2, tuple(counters)), 0, 2)
        before = view(purse)
        counters.clear()
        self.assertEqual(view(purse), before)
        wrong = [0, 1, 1, 1]
        self.refused_without_change(purse, "BadCounter", {"value": wrong}, purse.put_up, wrong)
        wrong.clear()
        self.assertEqual(view(purse), before)

    def test_two_purses_share_nothing(self):
        purse, other = Purse(BOARD_A, 0, 2), Purse(BOARD_A, 0, 2)
        before = view(other)
        purse.earn(5)
        purse.close(0)
        self.assertEqual(view(other), before)


class EditsTest(PurseCase):
    def test_drawn_edits_and_undos(self):
        chooser = random.Random(102)
        for board, kind, amount in drawn_starts(103, sample_boards() + loop_boards()[::4], 1):
            purse, model = purse_and_model(board, kind, amount)
            for repeat in range(25):
                if chooser.random() < 0.2:
                    self.check_undo(purse, model)
                else:
                    self.check_edit(purse, model, *drawn_edit(model, chooser))

    def test_change_at_each_counter(self):
        for board in sample_boards() + [BOARD_A, BOARD_G, FULL_BOARD]:
            for kind in range(board[0]):
                for index in range(-1, len(board[1]) + 2):
                    self.check_edit(*purse_and_model(board, kind, 29), "change", index)

    def test_change_gives_what_the_counter_gives(self):
        purse = Purse((2, ((0, 1, 5, 3), (1, 0, 2, 1))), 0, 14)
        self.assertEqual([purse.change(0), purse.kind, purse.amount, purse.best], [1, 1, 6, (3, 6)])
        self.assertEqual([purse.change(1), purse.kind, purse.amount, purse.best], [2, 0, 3, (3, 0)])
        self.assertEqual([purse.change(0), purse.kind, purse.amount, purse.best], [3, 1, 0, (0, 0)])

    def test_close_each_counter(self):
        for board in sample_boards() + [BOARD_A, BOARD_G, FULL_BOARD]:
            for index in range(-1, len(board[1]) + 2):
                purse, model = purse_and_model(board, 0, 29)
                self.check_edit(purse, model, "close", index)
                if model.edits:
                    self.check_undo(purse, model)

    def test_put_up_every_counter(self):
        for kinds in (2, 3, 4):
            for counter in all_counters(kinds)[::3]:
                self.check_edit(*purse_and_model((kinds, ()), 0, 9), "put_up", counter)
                self.check_edit(*purse_and_model((kinds, ((0, 1, 2, 3), (1, 0, 1, 1))), 0, 9), "put_up", counter)

    def test_put_up_equal_counters_to_the_last_place(self):
        purse, model = purse_and_model((2, ()), 0, 9)
        for repeat in range(9):
            self.check_edit(purse, model, "put_up", (0, 1, 2, 3))
        self.assertEqual(len(purse), 8)

    def test_earn_up_to_the_limit(self):
        for amount, coins in itertools.product((0, 1, 5, LIMIT - 1, LIMIT), (1, 2, LIMIT - 1, LIMIT)):
            self.check_edit(*purse_and_model(BOARD_A, 0, amount), "earn", coins)

    def test_best_after_each_edit(self):
        purse = Purse(BOARD_A, 0, 2)
        self.assertEqual([purse.best, purse.earn(2), purse.best], [(3, 3), 1, (None, None)])
        self.assertEqual([purse.close(1), purse.best, purse.undo(), purse.best], [2, (4, 6), 1, (None, None)])
        self.assertEqual([purse.undo(), purse.best], [0, (3, 3)])
        self.assertEqual([purse.put_up((0, 1, 1, 2)), purse.best], [1, (None, None)])

    def test_edits_of_the_board_keep_the_coins(self):
        purse = Purse(BOARD_A, 1, 77)
        purse.put_up((1, 0, 5, 5))
        purse.close(0)
        self.assertEqual((purse.kind, purse.amount, purse.board), (1, 77, (2, ((1, 0, 1, 1), (1, 0, 5, 5)))))

    def test_an_edit_changes_only_its_own_purse(self):
        board = (2, ((0, 1, 2, 3),))
        purse = Purse(board, 0, 9)
        purse.put_up((1, 0, 1, 1))
        self.assertEqual(board, (2, ((0, 1, 2, 3),)))


class EditErrorsTest(PurseCase):
    def test_no_counter(self):
        for board in [(1, ()), (2, ()), BOARD_A, FULL_BOARD]:
            purse = Purse(board, 0, 9)
            for value in WRONG_NUMBERS + [len(board[1]), len(board[1]) + 1, (0, 1, 2, 3)]:
                self.refused_without_change(purse, "NoCounter", {"value": value}, purse.change, value)
                self.refused_without_change(purse, "NoCounter", {"value": value}, purse.close, value)

    def test_wrong_kind(self):
        purse = Purse(FULL_BOARD, 1, 9)
        for index, counter in enumerate(FULL_BOARD[1]):
            if counter[0] != 1:
                self.refused_without_change(purse, "WrongKind", {"source": counter[0]}, purse.change, index)

    def test_wrong_kind_before_too_much(self):
        purse = Purse((2, ((0, 1, 1, 5), (1, 0, 1, 5))), 0, LIMIT)
        self.refused_without_change(purse, "WrongKind", {"source": 1}, purse.change, 1)
        self.refused_without_change(purse, "TooMuch", {"coins": 5 * LIMIT}, purse.change, 0)

    def test_too_much_by_change(self):
        for amount in (LIMIT // 5 + 1, LIMIT // 2, LIMIT):
            purse = Purse((2, ((0, 1, 1, 5),)), 0, amount)
            self.refused_without_change(purse, "TooMuch", {"coins": 5 * amount}, purse.change, 0)
        purse = Purse((2, ((0, 1, 1, 5),)), 0, LIMIT // 5)
        self.assertEqual([purse.change(0), purse.amount], [1, LIMIT])

    def test_too_much_by_earn(self):
        purse = Purse(BOARD_A, 0, 10)
        self.refused_without_change(purse, "TooMuch", {"coins": LIMIT + 1}, purse.earn, LIMIT - 9)
        self.refused_without_change(purse, "TooMuch", {"coins": LIMIT + 10}, purse.earn, LIMIT)
        self.assertEqual([purse.earn(LIMIT - 10), purse.amount], [1, LIMIT])
        self.refused_without_change(purse, "TooMuch", {"coins": LIMIT + 1}, purse.earn, 1)

    def test_bad_coins(self):
        for amount in (0, 5, LIMIT):
            purse = Purse(BOARD_A, 0, amount)
            for value in WRONG_AMOUNTS + [0, (1, 2)]:
                self.refused_without_change(purse, "BadCoins", {"value": value}, purse.earn, value)

    def test_bad_counter(self):
        values = [value for counter in [(0, 1, 2, 3), (1, 2, 1, 1)] for value in damaged(counter)]
        values += values_that_are_no_tuple() + values_that_are_no_number() + [(0, 3, 1, 1), (0, 0, 1, 1), (0, 1, 0, 1)]
        for board in [(3, ()), BOARD_G, FULL_BOARD]:
            purse, model = purse_and_model(board, 0, 9)
            for value in values:
                if ModelPurse((3, ()), 0, 9).fault("put_up", value):
                    self.refused_without_change(purse, "BadCounter", {"value": value}, purse.put_up, value)

    def test_counters_for_more_kinds(self):
        purse = Purse((1, ()), 0, 9)
        self.refused_without_change(purse, "BadCounter", {"value": (0, 1, 1, 1)}, purse.put_up, (0, 1, 1, 1))
        purse = Purse(BOARD_A, 0, 9)
        self.refused_without_change(purse, "BadCounter", {"value": (0, 2, 1, 1)}, purse.put_up, (0, 2, 1, 1))

    def test_too_many_counters(self):
        purse = Purse(FULL_BOARD, 0, 9)
        self.refused_without_change(purse, "TooManyCounters", {}, purse.put_up, (0, 1, 1, 1))
        self.refused_without_change(purse, "BadCounter", {"value": (0, 1, 1, 6)}, purse.put_up, (0, 1, 1, 6))
        self.assertEqual([purse.close(3), purse.put_up((0, 1, 1, 1))], [1, 2])
        self.refused_without_change(purse, "TooManyCounters", {}, purse.put_up, (0, 1, 1, 1))

    def test_bools_right_after_the_equal_numbers(self):
        board = (2, ((0, 1, 1, 1), (0, 1, 1, 1)))
        for number, value in [(0, False), (1, True)]:
            for name in ("change", "close"):
                purse = Purse(board, 0, 9)
                getattr(purse, name)(number)
                purse.undo()
                self.refused_without_change(purse, "NoCounter", {"value": value}, getattr(purse, name), value)
        purse = Purse(board, 0, 9)
        purse.earn(1)
        self.refused_without_change(purse, "BadCoins", {"value": True}, purse.earn, True)
        purse.put_up((0, 1, 1, 1))
        for value in [(False, 1, 1, 1), (0, True, 1, 1), (0, 1, True, 1), (0, 1, 1, True)]:
            self.refused_without_change(purse, "BadCounter", {"value": value}, purse.put_up, value)

    def test_after_an_error_the_purse_goes_on(self):
        purse = Purse(BOARD_A, 0, 9)
        self.refused_without_change(purse, "NoCounter", {"value": 2}, purse.change, 2)
        self.assertEqual([purse.change(0), purse.amount, purse.edits()], [1, 12, (("change", 0),)])


class ManyEditsTest(PurseCase):
    EDITS = [("change", 0), ("change", 9), ("change", None), ("earn", 1), ("earn", 0), ("earn", LIMIT), ("close", 0),
             ("close", True), ("put_up", (0, 1, 1, 1)), ("put_up", None), ("put_up", [0, 1, 1, 1])]

    def check_full(self, purse):
        for name, value in self.EDITS:
            self.refused_without_change(purse, "TooManyEdits", {}, getattr(purse, name), value)
            self.refused_without_change(purse, "Rejected", {"index": 0}, purse.attempt, [(name, value)])
        self.assertEqual(purse.attempt([]), 0)

    def test_sixty_edits_one_by_one(self):
        purse, model = edited_purse(BOARD_A, 0, 5, 60, 104)
        self.check_state(purse, model)
        self.check_full(purse)

    def test_one_more_after_undo(self):
        purse, model = purse_and_model(BOARD_A, 0, 5)
        for version in range(1, 61):
            self.check_edit(purse, model, "earn", version)
        self.check_full(purse)
        for name, value in [("change", 0), ("earn", 7), ("put_up", (0, 1, 1, 1)), ("close", 0)]:
            self.check_undo(purse, model)
            self.check_edit(purse, model, "earn", 0)
            self.assertEqual(len(purse), 59)
            self.check_edit(purse, model, name, value)
            self.assertEqual(len(purse), 60)
            self.check_full(purse)

    def test_sixty_edits_in_batches(self):
        purse, model = purse_and_model(BOARD_A, 0, 5)
        chooser = random.Random(105)
        for repeat in range(3):
            batch = []
            for place in range(20):
                batch.append(right_edit(model, chooser))
                model.do(*batch[-1])
            self.assertEqual(purse.attempt(batch), 20)
            self.check_state(purse, model)
        self.check_full(purse)
        while model.edits:
            self.check_undo(purse, model)
        self.check_undo(purse, model)

    def test_a_batch_that_comes_to_the_bound(self):
        purse, model = edited_purse(FULL_BOARD, 0, 5, 55, 106)
        self.refused_without_change(purse, "Rejected", {"index": 5}, purse.attempt, [("earn", 1)] * 6)
        self.refused_without_change(purse, "Rejected", {"index": 5}, purse.attempt, [("earn", 1)] * 20)
        self.assertEqual([purse.attempt([("earn", 1)] * 5), len(purse)], [5, 60])
        self.check_full(purse)


class UndoTest(PurseCase):
    def test_down_to_the_beginning(self):
        for board, kind, amount in drawn_starts(107, sample_boards()[::5] + loop_boards()[::20], 1):
            purse, model = edited_purse(board, kind, amount % 1000, 15, 108)
            while model.edits:
                self.check_undo(purse, model)
            self.assertEqual(view(purse), view(Purse(board, kind, amount % 1000)))
            self.check_undo(purse, model)
            self.check_undo(purse, model)

    def test_a_closed_counter_stands_at_its_old_place(self):
        for index in range(8):
            purse = Purse(FULL_BOARD, 0, 9)
            purse.close(index)
            purse.earn(1)
            self.assertEqual([purse.undo(), purse.undo(), purse.board], [1, 0, FULL_BOARD])

    def test_new_edits_after_undo(self):
        purse = Purse(BOARD_A, 0, 2)
        purse.earn(1)
        purse.earn(2)
        purse.undo()
        purse.earn(3)
        self.assertEqual(purse.edits(), (("earn", 1), ("earn", 3)))
        self.assertEqual([purse.state(version=version)[2] for version in range(3)], [2, 3, 6])

    def test_nothing_to_undo(self):
        purse = Purse(BOARD_A, 0, 2)
        self.refused_without_change(purse, "NothingToUndo", {}, purse.undo)
        purse.earn(1)
        purse.undo()
        self.refused_without_change(purse, "NothingToUndo", {}, purse.undo)


class VersionsTest(PurseCase):
    def test_state_of_each_version(self):
        for board, kind, amount in drawn_starts(109, sample_boards()[::6], 1):
            purse, model = edited_purse(board, kind, amount, 12, 110)
            for version, state in enumerate(model.states):
                self.assertEqual(repr(purse.state(version=version)), repr(state))
            self.assertEqual(repr(purse.state(version=None)), repr(model.states[-1]))
            self.assertEqual(repr(purse.state()), repr(model.states[-1]))

    def test_values_that_are_no_version(self):
        for many in (0, 1, 3):
            purse = Purse(BOARD_A, 0, 2)
            for repeat in range(many):
                purse.earn(1)
            wrong = [value for value in WRONG_AMOUNTS if value is not None]
            for value in wrong + [many + 1, many + 2, 61, "None"]:
                self.refused_without_change(purse, "NoVersion", {"value": value}, purse.state, version=value)
                for wish in [(0, 1), (None, 1), (0, None), (5, 0)]:
                    self.refused("NoVersion", {"value": value}, purse.certificate, *wish, version=value)

    def test_bools_right_after_the_equal_versions(self):
        purse = Purse(BOARD_A, 0, 2)
        purse.earn(1)
        for version, value in [(0, False), (1, True)]:
            purse.state(version=version)
            purse.certificate(0, 1, version=version)
            self.refused("NoVersion", {"value": value}, purse.state, version=value)
            self.refused("NoVersion", {"value": value}, purse.certificate, 0, 1, version=value)

    def test_a_version_that_was_undone(self):
        purse = Purse(BOARD_A, 0, 2)
        purse.earn(1)
        purse.undo()
        self.refused("NoVersion", {"value": 1}, purse.state, version=1)
        self.assertEqual(purse.state(version=0), (BOARD_A, 0, 2))

    def test_version_is_passed_by_keyword(self):
        purse = Purse(BOARD_A, 0, 2)
        with self.assertRaises(TypeError):
            purse.state(0)
        with self.assertRaises(TypeError):
            purse.certificate(0, 1, 0)


class CertificateTest(PurseCase):
    def test_certificates_of_each_version(self):
        chooser = random.Random(111)
        for board, kind, amount in drawn_starts(112, sample_boards()[::4] + loop_boards()[::5], 1):
            purse, model = edited_purse(board, kind, amount, 6, 113)
            before = view(purse)
            for target, wanted in drawn_wishes(board, chooser, 4):
                for version, state in enumerate(model.states):
                    value = purse.certificate(target, wanted, version=version)
                    self.assertEqual(value, find_certificate(*state, target, wanted))
                    self.assertTrue(is_right_certificate(*state, target, wanted, value))
                self.assertEqual(purse.certificate(target, wanted), value)
                self.assertEqual(purse.certificate(target, wanted, version=None), value)
            self.assertEqual(view(purse), before)

    def test_the_three_words(self):
        purse = Purse(BOARD_A, 0, 2)
        self.assertEqual(purse.certificate(1, 3), ("route", (0,)))
        self.assertEqual(purse.certificate(1, 4), ("ceiling", (3, 3)))
        purse.earn(2)
        self.assertEqual(purse.certificate(1, LIMIT)[0], "growth")
        self.assertEqual(purse.certificate(1, 4, version=0), ("ceiling", (3, 3)))

    def test_no_kind_then_bad_amount(self):
        purse = Purse(BOARD_A, 0, 2)
        purse.earn(1)
        for version in (None, 0, 1):
            for target in WRONG_NUMBERS + [2, 3]:
                for wanted in (1, 0, None, LIMIT + 1):
                    self.refused("NoKind", {"value": target}, purse.certificate, target, wanted, version=version)
            for wanted in WRONG_AMOUNTS + [0]:
                self.refused("BadAmount", {"value": wanted}, purse.certificate, 1, wanted, version=version)
        self.assertEqual(purse.certificate(0, LIMIT)[0], "ceiling")

    def test_bools_right_after_the_equal_numbers(self):
        purse = Purse(BOARD_A, 0, 2)
        purse.certificate(1, 1)
        self.refused("NoKind", {"value": True}, purse.certificate, True, 1)
        self.refused("BadAmount", {"value": True}, purse.certificate, 1, True)
        purse.certificate(0, 1)
        self.refused("NoKind", {"value": False}, purse.certificate, False, 1)

    def test_a_route_that_would_be_too_long(self):
        # No board was found on which a certificate needs more than 200 counters, so this lowers the bound.
        purse = Purse(SLOW_BOARD, 0, 688)
        self.assertEqual(purse.certificate(0, 759), ("route", (0, 1, 2, 3) * 15))
        with mock.patch("coincounters.best.MAX_ROUTE", 59):
            self.refused_without_change(purse, "TooLong", {"bound": 59}, purse.certificate, 0, 759)
            self.refused("TooLong", {"bound": 59}, purse.certificate, 0, 759, version=0)
            self.refused("BadAmount", {"value": 0}, purse.certificate, 0, 0)


class EditsMethodTest(PurseCase):
    def test_names_and_values(self):
        purse = Purse(BOARD_A, 0, 2)
        self.assertEqual(purse.edits(), ())
        purse.earn(3)
        purse.change(0)
        purse.put_up((1, 0, 5, 5))
        purse.close(1)
        expected = (("earn", 3), ("change", 0), ("put_up", (1, 0, 5, 5)), ("close", 1))
        self.assertEqual(repr(purse.edits()), repr(expected))
        purse.undo()
        self.assertEqual(purse.edits(), expected[:3])

    def test_the_edits_lead_from_the_first_state_to_the_present_one(self):
        for board, kind, amount in drawn_starts(114, sample_boards()[::5], 1):
            purse, model = edited_purse(board, kind, amount, 20, 115)
            other = Purse(*purse.state(version=0))
            self.assertEqual(other.attempt(purse.edits()), 20)
            self.assertEqual(view(other), view(purse))


class LenAndStrTest(PurseCase):
    def test_always_the_same_words(self):
        self.assertEqual(str(Purse((1, ()), 0, 1)), "1 kinds, 0 counters, 1 coins of kind 0, 0 edits")
        purse = Purse((2, ((0, 1, 1, 1),)), 0, 0)
        self.assertEqual(str(purse), "2 kinds, 1 counters, 0 coins of kind 0, 0 edits")
        purse.earn(LIMIT)
        purse.change(0)
        self.assertEqual(str(purse), "2 kinds, 1 counters, 1000000000000 coins of kind 1, 2 edits")
        purse.undo()
        self.assertEqual(str(purse), "2 kinds, 1 counters, 1000000000000 coins of kind 0, 1 edits")

    def test_len_is_the_version(self):
        purse = Purse(BOARD_A, 0, 0)
        self.assertEqual(len(purse), 0)
        for version in range(1, 61):
            self.assertEqual([purse.earn(1), len(purse)], [version, version])


class EqualityTest(PurseCase):
    def check(self, one, other, equal):
        for left, right in [(one, other), (other, one)]:
            self.assertIs(left == right, equal)
            self.assertIs(left != right, not equal)

    def test_the_same_state_with_different_edits(self):
        purse, other = Purse(BOARD_A, 0, 5), Purse(BOARD_A, 0, 2)
        self.check(purse, other, False)
        other.earn(3)
        self.check(purse, other, True)
        other.undo()
        other.earn(1)
        other.earn(2)
        self.check(purse, other, True)
        self.check(purse, purse, True)

    def test_each_part_of_the_state(self):
        purse = Purse(BOARD_A, 0, 5)
        self.check(purse, Purse(BOARD_A, 0, 5), True)
        self.check(purse, Purse(BOARD_A, 1, 5), False)
        self.check(purse, Purse(BOARD_A, 0, 6), False)
        self.check(purse, Purse((3, BOARD_A[1]), 0, 5), False)
        self.check(purse, Purse((2, BOARD_A[1][::-1]), 0, 5), False)
        self.check(purse, Purse((2, BOARD_A[1][:1]), 0, 5), False)

    def test_capped_purses(self):
        purse, capped = Purse(BOARD_A, 0, 5), CappedPurse(BOARD_A, 0, 5, LIMIT)
        self.check(purse, capped, False)
        self.check(capped, CappedPurse(BOARD_A, 0, 5, LIMIT), True)
        self.check(capped, CappedPurse(BOARD_A, 0, 5, LIMIT - 1), False)
        self.check(capped, CappedPurse(BOARD_A, 0, 6, LIMIT), False)
        self.check(capped, CappedPurse(BOARD_A, 1, 5, LIMIT), False)
        other = CappedPurse(BOARD_A, 0, 2, LIMIT)
        other.earn(3)
        self.check(capped, other, True)
        self.check(purse, other, False)
        self.check(CappedPurse(BOARD_A, 0, 0, 0), CappedPurse(BOARD_A, 0, 0, 0), True)
        self.check(CappedPurse(BOARD_A, 0, 0, 0), Purse(BOARD_A, 0, 0), False)

    def test_values_of_other_kinds(self):
        for purse in [Purse((1, ()), 0, 0), CappedPurse((1, ()), 0, 0, 5)]:
            values = values_that_are_no_tuple() + values_that_are_no_pair() + values_that_are_no_number()
            for value in values + [purse.state(), str(purse), purse.best, Purse, object()]:
                self.check(purse, value, False)

    def test_drawn_purses(self):
        purses = [edited_purse(board, 0, 3, many, 116)[0] for board in [(2, ()), BOARD_A] for many in range(12)]
        for one, other in itertools.product(purses, repeat=2):
            self.assertIs(one == other, one.state() == other.state())
            self.assertIs(one != other, one.state() != other.state())


class FreshPurseTest(PurseCase):
    """Guarantee (f): only the state counts, however it came about."""

    def test_after_edits_and_undos(self):
        chooser = random.Random(117)
        for board, kind, amount in drawn_starts(118, sample_boards()[::2] + loop_boards()[::4], 1):
            purse, model = purse_and_model(board, kind, amount)
            for repeat in range(30):
                roll = chooser.random()
                if roll < 0.25:
                    self.check_undo(purse, model)
                elif roll < 0.4 and len(model.edits) < 56:
                    batch = [right_edit(model, chooser), drawn_edit(model, chooser), ("earn", 0)]
                    self.refused("Rejected", {"index": model.attempt(batch)}, purse.attempt, batch)
                else:
                    self.check_edit(purse, model, *drawn_edit(model, chooser))
                self.check_fresh(purse, drawn_wishes(board, chooser, 2))

    def check_fresh(self, purse, wishes):
        fresh = Purse(*purse.state())
        self.assertEqual(
            repr([purse.board, purse.kind, purse.amount, purse.best, purse.state()]),
            repr([fresh.board, fresh.kind, fresh.amount, fresh.best, fresh.state()]),
        )
        self.assertEqual(purse.best, best_from(*purse.state()))
        self.assertEqual(purse.best, best_by_trying(*purse.state()))
        for wish in wishes:
            self.assertEqual(purse.certificate(*wish), fresh.certificate(*wish))
            self.assertEqual(list(purse.walk(*wish)), list(fresh.walk(*wish)))
        self.assertTrue(purse == fresh and fresh == purse)

    def test_equal_calls_return_equal_results(self):
        purse, model = edited_purse(FULL_BOARD, 0, 9, 10, 119)
        before = view(purse)
        for repeat in range(3):
            results = [purse.certificate(2, 7), list(purse.walk(2, 7)), view(purse)]
            self.assertEqual(results, [purse.certificate(2, 7), list(purse.walk(2, 7)), before])


if __name__ == "__main__":
    unittest.main()
