"""Purse.attempt: batches of edits, and the watch that sees them."""

import copy
import random
import unittest

from coincounters import errors
from coincounters.purses import CappedPurse, Purse
from tests.purse_case import PurseCase, drawn_edit, edited_purse, purse_and_model, right_edit
from tests.purse_model import answers, view
from tests.samples import (
    BOARD_A, FULL_BOARD, LIMIT, drawn_starts, loop_boards, sample_boards, values_that_are_no_number,
    values_that_are_no_pair, values_that_are_no_tuple,
)

WRONG_EDITS = [
    (), ("earn",), ("earn", 1, 2), ("earn", (1,), ()), ("undo",), ("undo", 1), ("Earn", 1), ("earn ", 1), ("put up", 1),
    ("putup", (0, 1, 1, 1)), ("put_up", 0, 1, 1, 1), ("change",), ("close",), ("attempt", []), ("walk", 0, 1), ("", 1),
    (1, "earn"), (None, 1), (True, 1), (0, 1), (("earn", 1),), (("earn",), 1), (["earn"], 1), ({"earn": 1}, 1),
    ["earn", 1], ["earn"], [("earn", 1)], "earn", "earn 1", {"earn": 1}, None, True, False, 0, 1,
]


class BatchTest(PurseCase):
    def check_batch(self, purse, model, batch):
        """The batch does what its edits do one by one, or nothing."""
        before, given = view(purse), copy.deepcopy(batch)
        fault = model.attempt(batch)
        if fault is None:
            self.assertEqual(repr(purse.attempt(batch)), repr(len(batch)))
        else:
            self.refused("Rejected", {"index": fault}, purse.attempt, batch)
            self.assertEqual(view(purse), before)
        self.assertEqual(repr(batch), repr(given))
        self.check_state(purse, model)

    def drawn_batch(self, model, chooser):
        """A batch that is right for the present state, mostly."""
        trial, batch = copy.deepcopy(model), []
        for place in range(chooser.choice([0, 1, 2, 3, 5, 20])):
            careless = len(trial.edits) == 60 or chooser.random() < 0.05
            batch.append(drawn_edit(trial, chooser) if careless else right_edit(trial, chooser))
            if trial.fault(*batch[-1]) is None:
                trial.do(*batch[-1])
        return batch if chooser.random() < 0.5 else tuple(batch)

    def test_drawn_batches(self):
        chooser = random.Random(121)
        for board, kind, amount in drawn_starts(122, sample_boards()[::2] + loop_boards()[::8], 1):
            # With one kind and a cap there may be no right edit at all.
            most = None if board[0] == 1 else chooser.choice([None, amount, max(amount, 500)])
            purse, model = purse_and_model(board, kind, amount, most)
            for repeat in range(12):
                if chooser.random() < 0.3:
                    self.check_undo(purse, model)
                else:
                    self.check_batch(purse, model, self.drawn_batch(model, chooser))

    def test_an_empty_batch(self):
        for batch in ([], ()):
            purse = Purse(BOARD_A, 0, 2)
            before = view(purse)
            self.assertEqual(repr(purse.attempt(batch)), "0")
            self.assertEqual(view(purse), before)

    def test_twenty_edits_and_twenty_one(self):
        for form in (list, tuple):
            purse = Purse(BOARD_A, 0, 2)
            self.refused_without_change(purse, "BadEdits", {}, purse.attempt, form([("earn", 1)] * 21))
            self.refused_without_change(purse, "BadEdits", {}, purse.attempt, form([None] * 21))
            self.assertEqual([purse.attempt(form([("earn", 1)] * 20)), len(purse), purse.amount], [20, 20, 22])

    def test_each_edit_can_be_undone_by_itself(self):
        purse, model = purse_and_model(BOARD_A, 0, 4)
        self.check_batch(purse, model, [("earn", 5), ("change", 0), ("put_up", (1, 0, 1, 2)), ("close", 0)])
        for repeat in range(5):
            self.check_undo(purse, model)

    def test_values_that_are_no_batch(self):
        purse = Purse(BOARD_A, 0, 2)
        purse.earn(1)
        values = [value for value in values_that_are_no_tuple() + values_that_are_no_number()
                  if not isinstance(value, (list, tuple))]
        values += ["earn", "change 0", {"earn": 1}, {}, iter([("earn", 1)]), {("earn", 1)}, list(range(1000))]
        for value in values:
            self.refused_without_change(purse, "BadEdits", {}, purse.attempt, value)

    def test_items_that_are_no_edits(self):
        purse = Purse(BOARD_A, 0, 2)
        values = WRONG_EDITS + values_that_are_no_tuple() + values_that_are_no_pair() + values_that_are_no_number()
        for value in values:
            for before in ([], [("earn", 1)], [("earn", 1)] * 19, [("earn", 0)], [("change", 5)]):
                batch = before + [value]
                self.refused_without_change(purse, "BadEdit", {"index": len(before)}, purse.attempt, batch)
                self.refused_without_change(purse, "BadEdit", {"index": len(before)}, purse.attempt, tuple(batch))

    def test_the_first_item_that_is_no_edit_counts(self):
        purse = Purse(BOARD_A, 0, 2)
        batch = [("earn", 1), ("earn", 0), None, ("earn",), ("earn", 1)]
        self.refused_without_change(purse, "BadEdit", {"index": 2}, purse.attempt, batch)
        self.refused_without_change(purse, "BadEdit", {"index": 0}, purse.attempt, [None] * 20)
        self.refused_without_change(purse, "BadEdit", {"index": 0}, purse.attempt, (["earn", 1], ("earn", 1)))

    def test_before_any_edit_is_done(self):
        calls = []
        purse = Purse(BOARD_A, 0, 2)
        self.refused("BadEdit", {"index": 1}, purse.attempt, [("earn", 1), ("earn",)], watch=calls.append)
        self.assertEqual(calls, [])

    def test_any_value_in_an_edit(self):
        values = values_that_are_no_tuple() + values_that_are_no_pair() + values_that_are_no_number()
        for value in [value for value in values if type(value) is not int and value != (0, 1, 2, 3)]:
            for name in ("change", "earn", "put_up", "close"):
                purse = Purse(BOARD_A, 0, 2)
                batch = [("earn", 1), (name, value), ("earn", 1)]
                self.refused_without_change(purse, "Rejected", {"index": 1}, purse.attempt, batch)

    def test_each_error_of_an_edit(self):
        board = (2, ((0, 1, 1, 5), (1, 0, 1, 1)))
        wrong = [("change", 2), ("change", True), ("change", 1), ("change", 0), ("earn", 0), ("earn", LIMIT),
                 ("put_up", (0, 1, 1, 6)), ("close", -1), ("close", 2)]
        for edit in wrong:
            for index in (0, 1, 19):
                purse = Purse(board, 0, LIMIT // 2)
                batch = [("earn", 1)] * index + [edit] + [("earn", 1)] * (19 - index)
                self.refused_without_change(purse, "Rejected", {"index": index}, purse.attempt, batch)
        purse = Purse(FULL_BOARD, 0, 1)
        batch = [("earn", 1), ("put_up", (0, 1, 1, 1))]
        self.refused_without_change(purse, "Rejected", {"index": 1}, purse.attempt, batch)
        self.assertEqual(purse.attempt([("close", 7)] + batch), 3)

    def test_edits_before_the_batch_stand(self):
        purse, model = edited_purse(BOARD_A, 0, 5, 10, 123)
        self.check_batch(purse, model, [("earn", 1), ("earn", 2), ("earn", 0)])
        self.assertEqual(len(purse), 10)

    def test_a_list_that_is_changed_afterwards(self):
        purse = Purse(BOARD_A, 0, 2)
        batch = [("earn", 1), ("put_up", (0, 1, 1, 1))]
        purse.attempt(batch)
        before = view(purse)
        batch[0] = ("earn", 9)
        batch.clear()
        self.assertEqual(view(purse), before)

    def test_watch_is_passed_by_keyword(self):
        with self.assertRaises(TypeError):
            Purse(BOARD_A, 0, 2).attempt([], None)


class WatchTest(PurseCase):
    def test_after_each_edit_with_this_purse(self):
        purse = Purse(BOARD_A, 0, 4)
        seen = []

        def watch(*values, **named):
            self.assertEqual(named, {})
            self.assertEqual(len(values), 1)
            self.assertIs(values[0], purse)
            seen.append(view(purse))

        batch = [("earn", 5), ("change", 0), ("put_up", (1, 0, 1, 2)), ("close", 0)]
        self.assertEqual(purse.attempt(batch, watch=watch), 4)
        other = Purse(BOARD_A, 0, 4)
        expected = []
        for name, value in batch:
            getattr(other, name)(value)
            expected.append(view(other))
        self.assertEqual(seen, expected)
        self.assertEqual(view(purse), expected[-1])

    def test_none_is_no_watch(self):
        purse = Purse(BOARD_A, 0, 4)
        self.assertEqual(purse.attempt([("earn", 1)], watch=None), 1)

    def test_an_empty_batch_never_calls_it(self):
        calls = []
        purse = Purse(BOARD_A, 0, 4)
        for batch in ([], ()):
            self.assertEqual(purse.attempt(batch, watch=calls.append), 0)
        self.assertEqual(calls, [])

    def test_a_value_that_counts_as_true_ends_the_batch(self):
        for value in [True, 1, -1, "no", " ", (0,), [0], {"a": 0}, object(), Purse]:
            for stop in (1, 2, 5):
                purse = Purse(BOARD_A, 0, 4)
                calls = []

                def watch(seen):
                    calls.append(len(seen))
                    return value if len(calls) == stop else None

                self.assertEqual(repr(purse.attempt([("earn", 1)] * 5, watch=watch)), repr(stop))
                self.assertEqual(calls, list(range(1, stop + 1)))
                self.assertEqual([purse.amount, len(purse)], [4 + stop, stop])
                self.assertEqual(purse.undo(), stop - 1)

    def test_a_value_that_counts_as_false_does_not(self):
        for value in [None, False, 0, "", (), [], {}, Purse(BOARD_A, 0, 4)]:
            purse = Purse(BOARD_A, 0, 4)
            self.assertEqual(purse.attempt([("earn", 1)] * 5, watch=lambda seen: value), 5)

    def test_the_edits_behind_the_end_are_not_done(self):
        purse = Purse(BOARD_A, 0, 4)
        self.assertEqual(purse.attempt([("earn", 1), ("earn", 0)], watch=lambda seen: True), 1)
        self.assertEqual(purse.edits(), (("earn", 1),))

    def test_a_purse_with_edits_counts_as_true(self):
        purse = Purse(BOARD_A, 0, 4)
        self.assertEqual(purse.attempt([("earn", 1)] * 5, watch=lambda seen: seen), 1)

    def test_an_edit_with_an_error_after_watched_ones(self):
        purse = Purse(BOARD_A, 0, 4)
        purse.earn(1)
        calls = []
        batch = [("earn", 1), ("earn", 2), ("earn", 0), ("earn", 3)]
        before = view(purse)
        self.refused("Rejected", {"index": 2}, purse.attempt, batch, watch=lambda seen: calls.append(seen.amount))
        self.assertEqual(calls, [6, 8])
        self.assertEqual(view(purse), before)

    def raised_in_watch(self, error, index):
        """The exception in the watch after this edit undoes the batch and propagates; the purse goes on."""
        purse = Purse(BOARD_A, 0, 4)
        purse.earn(1)
        before = view(purse)

        def watch(seen):
            if len(seen) == index + 2:
                raise error

        with self.assertRaises(type(error)) as caught:
            purse.attempt([("earn", 1), ("change", 0), ("close", 0), ("put_up", (0, 1, 1, 1))], watch=watch)
        self.assertIs(caught.exception, error)
        self.assertEqual(view(purse), before)
        self.assertEqual([purse.earn(1), purse.undo(), purse.undo(), purse.attempt([("earn", 2)])], [2, 1, 0, 1])

    def test_exceptions_of_other_kinds(self):
        for error in [ValueError("x"), KeyError("x"), LookupError(), TypeError(), ZeroDivisionError(), StopIteration(),
                      RuntimeError(), AssertionError(), Exception(), KeyboardInterrupt(), GeneratorExit()]:
            for index in (0, 1, 3):
                self.raised_in_watch(error, index)

    def test_exceptions_of_this_package(self):
        for error in [errors.Rejected(7), errors.Busy(), errors.BadEdit(3), errors.NoCounter(1), errors.NoKind(0),
                      errors.CoinError(), errors.TooManyEdits(), errors.OverCap(5), errors.NoVersion(None)]:
            for index in (0, 1, 3):
                self.raised_in_watch(error, index)

    def test_an_exception_of_the_truth_of_a_value(self):
        class Doubtful:
            def __bool__(self):
                raise OverflowError("neither")

        purse = Purse(BOARD_A, 0, 4)
        before = view(purse)
        with self.assertRaises(OverflowError):
            purse.attempt([("earn", 1)], watch=lambda seen: Doubtful())
        self.assertEqual(view(purse), before)
        self.assertEqual(purse.earn(1), 1)

    def test_a_list_that_watch_changes(self):
        purse = Purse(BOARD_A, 0, 4)
        batch = [("earn", 1), ("earn", 2), ("earn", 3)]

        def watch(seen):
            batch.clear()
            batch.append(None)

        self.assertEqual([purse.attempt(batch, watch=watch), purse.amount], [3, 10])
        batch = [("earn", 1)]
        self.assertEqual(purse.attempt(batch, watch=lambda seen: batch.append(("earn", 5))), 1)
        self.assertEqual(purse.amount, 11)


class BusyTest(PurseCase):
    WRONG_CALLS = [
        ("change", 0), ("change", 9), ("change", None), ("earn", 1), ("earn", 0), ("earn", LIMIT), ("close", 0),
        ("close", True), ("put_up", (0, 1, 1, 1)), ("put_up", None), ("attempt", []), ("attempt", [("earn", 1)]),
        ("attempt", None), ("attempt", [None]), ("attempt", [("earn", 1)] * 21),
    ]

    def check_busy(self, purse):
        for name, value in self.WRONG_CALLS:
            self.refused_without_change(purse, "Busy", {}, getattr(purse, name), value)
        self.refused_without_change(purse, "Busy", {}, purse.undo)
        self.refused_without_change(purse, "Busy", {}, purse.attempt, [("earn", 1)], watch=lambda seen: None)

    def check_free(self, purse):
        version, before = len(purse), view(purse)
        self.assertEqual([purse.earn(1), purse.attempt([("earn", 1)]), purse.undo(), purse.undo()],
                         [version + 1, 1, version + 1, version])
        self.assertEqual(view(purse), before)

    def purses(self):
        return [Purse(BOARD_A, 0, 4), CappedPurse(BOARD_A, 0, 4, 100)]

    def test_each_method_that_changes_the_purse(self):
        for purse in self.purses():
            calls = []

            def watch(seen):
                calls.append(len(seen))
                self.check_busy(seen)

            self.assertEqual(purse.attempt([("earn", 1), ("change", 0), ("close", 0)], watch=watch), 3)
            self.assertEqual(calls, [1, 2, 3])
            self.check_free(purse)

    def test_before_too_many_edits_and_nothing_to_undo(self):
        purse, model = edited_purse(BOARD_A, 0, 5, 59, 124)
        edit = right_edit(model, random.Random(125))
        self.assertEqual(purse.attempt([edit], watch=self.check_busy), 1)
        self.refused("TooManyEdits", {}, purse.earn, 1)

    def test_a_busy_error_that_watch_does_not_catch(self):
        for purse in self.purses():
            before = view(purse)
            self.refused("Busy", {}, purse.attempt, [("earn", 1)] * 3, watch=lambda seen: seen.earn(1))
            self.assertEqual(view(purse), before)
            self.check_free(purse)

    def test_afterwards_the_purse_accepts_edits(self):
        for purse in self.purses():
            purse.attempt([("earn", 1)], watch=lambda seen: True)
            self.check_free(purse)
            self.refused("Rejected", {"index": 1}, purse.attempt, [("earn", 1), ("earn", 0)], watch=self.check_busy)
            self.check_free(purse)
            with self.assertRaises(ZeroDivisionError):
                purse.attempt([("earn", 1)], watch=lambda seen: 1 // 0)
            self.check_free(purse)

    def test_between_two_watches_the_purse_is_not_busy(self):
        purse = Purse(BOARD_A, 0, 4)
        self.assertEqual(purse.attempt([("earn", 1)] * 20, watch=lambda seen: None), 20)

    def test_queries_and_attributes_work(self):
        for purse in self.purses():
            shown = []
            wishes = [(0, 1), (1, 9), (1, LIMIT)]

            def watch(seen):
                shown.append((view(seen), answers(seen, wishes), seen == seen, seen != Purse(BOARD_A, 0, 4)))
                self.refused("NoVersion", {"value": 9}, seen.state, version=9)
                self.refused("NoKind", {"value": 2}, seen.certificate, 2, 1)
                self.assertEqual(Purse.read("1 kinds; 0: 5;").amount, 5)
                if isinstance(seen, CappedPurse):
                    self.assertEqual([seen.most, seen.room(seen.amount)], [100, 100 - seen.amount])

            batch = [("earn", 5), ("change", 0), ("close", 0)]
            purse.attempt(batch, watch=watch)
            other = Purse(BOARD_A, 0, 4)
            for (name, value), (seen, answered, same, different) in zip(batch, shown, strict=True):
                getattr(other, name)(value)
                self.assertEqual(seen, view(other))
                self.assertEqual(answered, answers(other, wishes))
                self.assertIs(same, True)
                self.assertIs(different, True)

    def test_another_purse_can_be_edited(self):
        purse, other = Purse(BOARD_A, 0, 4), Purse(BOARD_A, 0, 4)

        def watch(seen):
            other.earn(2)
            other.attempt([("earn", 1), ("change", 0)], watch=lambda inner: self.check_busy(purse))
            other.undo()
            self.check_busy(purse)

        self.assertEqual(purse.attempt([("earn", 1)], watch=watch), 1)
        self.assertEqual([purse.state(), other.state()], [(BOARD_A, 0, 5), (BOARD_A, 0, 7)])
        self.check_free(purse)
        self.check_free(other)

    def test_a_purse_that_is_equal_is_another_one(self):
        purse, other = Purse(BOARD_A, 0, 4), Purse(BOARD_A, 0, 5)

        def watch(seen):
            self.assertTrue(seen == other)
            self.check_free(other)

        purse.attempt([("earn", 1)], watch=watch)


if __name__ == "__main__":
    unittest.main()
