"""Shell.execute."""

import random
import unittest
from unittest import mock

from coincounters.purses import CappedPurse, Purse
from coincounters.shells import Shell
from tests.purse_model import answer_to_line, call_of_line, view
from tests.samples import (
    BOARD_A, BOARD_G, FULL_BOARD, LIMIT, SLOW_BOARD, all_counters, drawn_starts, loop_boards, sample_boards,
    values_that_are_no_number, values_that_are_no_pair, values_that_are_no_tuple,
)

UNKNOWN = "unknown command"

RIGHT_LINES = ["change 0", "change 1", "earn 1", "earn 1000000000000", "close 0", "undo", "purse", "best", "can 0 1",
               "can 1 12", "put up 0>1 2:3", "put up 1>0 5:5"]

# A text of a right line with something wrong in it.
WRONG_LINES = [
    "", " ", "  ", "\n", "change", "earn", "close", "put", "put up", "can", "can 0", "change 0 1", "change 0 ",
    " change 0", "change  0", "change\n0", "change 0\n", "\nchange 0", "Change 0", "CHANGE 0", "changes 0", "chang 0",
    "change 00", "change 01", "change -1", "change -0", "change +0", "change 0_0", "change 1_0", "change _0",
    "change 0x0", "change 0.0", "change zero", "change ''", "change 12345678901234", "change 00000000000000",
    "change0", "change:0", "change 0;", "earn 01", "earn +1", "earn 1_000", "earn 10000000000000", "earn 1 1",
    "earn 1e3", "earn  1", "earn one", "close 0 0", "close", "close -1", "close all", "undo 1", "undo ", " undo",
    "undo\n", "Undo", "undo undo", "redo", "purse ", "purse 0", "Purse", "purses", "best ", "best 0", "Best",
    "endless", "can 0 1 2", "can 0  1", "can  0 1", "can 0 01", "can 0 -1", "can -1 1", "can 0 12345678901234",
    "can 00 1", "can zero one", "can 0 1\n", "Can 0 1", "can 0,1", "cannot 0 1", "put up 0>1", "put up 2:3",
    "put up  0>1 2:3", "put up 0>1  2:3", "put up 0>1 2:3 ", "put  up 0>1 2:3", "put 0>1 2:3", "put_up 0>1 2:3",
    "Put up 0>1 2:3", "put Up 0>1 2:3", "put up 0>1 2:3 1>0 1:1", "put up 2:3 0>1", "put up 0>1\n2:3",
    "put up 0>1 2:3\n", "put up 0>0 1:1", "put up 0>2 1:1", "put up 2>0 1:1", "put up 0>1 0:1", "put up 0>1 1:0",
    "put up 0>1 6:1", "put up 0>1 1:6", "put up 00>1 1:1", "put up 0>01 1:1", "put up 0>1 01:1", "put up 0>1 1:01",
    "put up -0>1 1:1", "put up 0>+1 1:1", "put up 0>1 1:_1", "put up 0<1 1:1", "put up 0>1 1;1",
    "put up (0, 1, 1, 1)", "put up 0 1 1 1", "put up 0>1>1 1:1", "put up 0>1 1:1:1", "put up 0>1>1 1", "put up > :",
    "up 0>1 1:1", "put 0", "up 0", "attempt", "attempt 0", "state", "edits", "walk 0 1", "read", "room 5", "len",
    "str", "board", "kind", "help", "2 kinds; 0: 7;", "ok 1", "error Busy", "unknown command", "x" * 2000,
    "change " * 200, "earn " + "9" * 1990, "change " + "9" * 5000,
]


def purses():
    """Purses on which some line meets each error."""
    full = Purse(BOARD_A, 0, 0)
    full.attempt([("earn", 1)] * 20)
    full.attempt([("earn", 1)] * 20)
    full.attempt([("earn", 1)] * 20)
    return [
        Purse((1, ()), 0, 5), Purse(BOARD_A, 0, 2), Purse(BOARD_A, 1, LIMIT), Purse(BOARD_G, 2, 77), full,
        Purse(FULL_BOARD, 0, LIMIT), Purse(FULL_BOARD, 2, 6), CappedPurse(BOARD_A, 0, 4, 5),
        CappedPurse(FULL_BOARD, 1, 0, 0), CappedPurse((2, ()), 0, 10, LIMIT),
    ]


class ShellTest(unittest.TestCase):
    def check(self, shell, purse, twin, line):
        """The shell answers, and the purse does, what the twin does if its method is called."""
        unknown = call_of_line(line, purse.board[0]) is None
        before = view(purse)
        answer = shell.execute(line)
        self.assertIs(type(answer), str)
        self.assertEqual(answer, answer_to_line(twin, line), line)
        self.assertEqual(view(purse), view(twin))
        self.assertIs(answer == UNKNOWN, unknown)
        if not answer.startswith("ok "):
            self.assertEqual(view(purse), before)
        return answer

    def test_each_command(self):
        for purse, twin in zip(purses(), purses()):
            shell = Shell(purse)
            for repeat in range(3):
                for line in RIGHT_LINES:
                    self.check(shell, purse, twin, line)

    def test_wrong_lines(self):
        for purse, twin in zip(purses(), purses()):
            shell = Shell(purse)
            for line in WRONG_LINES:
                if purse.board[0] > 2 and line in ("put up 0>2 1:1", "put up 2>0 1:1"):
                    continue
                self.assertEqual(self.check(shell, purse, twin, line), UNKNOWN, line)

    def test_right_lines_with_a_character_changed(self):
        seen = set()
        for line in RIGHT_LINES:
            for at in range(len(line) + 1):
                for character in " 019->:+_\nupx":
                    for other in (line[:at] + character + line[at:], line[:at] + character + line[at + 1:],
                                  line[:at] + line[at + 1:], line[:at]):
                        purse, twin = Purse(BOARD_A, 0, 20), Purse(BOARD_A, 0, 20)
                        seen.add(self.check(Shell(purse), purse, twin, other))
        self.assertTrue({UNKNOWN, "ok 1", "error NoCounter", "error NoKind"}.issubset(seen))

    def test_values_that_are_not_texts(self):
        values = values_that_are_no_tuple() + values_that_are_no_pair() + values_that_are_no_number()
        values += [b"undo", ["undo"], ("undo",), {"undo": 1}, ("earn", 1), ["earn", "1"]]
        for purse in purses():
            shell, before = Shell(purse), view(purse)
            for value in [value for value in values if type(value) is not str]:
                self.assertEqual(shell.execute(value), UNKNOWN)
            self.assertEqual(view(purse), before)

    def drawn_line(self, board, chooser):
        small, great = chooser.randint(0, 9), chooser.choice([1, 7, 300, LIMIT, LIMIT + 1, 9999999999999])
        counter = "%d>%d %d:%d" % chooser.choice(all_counters(max(board[0], 2)))
        return chooser.choice([
            "change %d" % small, "change %d" % (small % 3), "earn %d" % small, "earn %d" % great, "close %d" % small,
            "undo", "purse", "best", "can %d %d" % (small % 5, great), "can %d %d" % (small % 3, small),
            "put up " + counter, "put up " + counter, chooser.choice(WRONG_LINES),
        ])

    def test_drawn_lines_by_two_shells_on_one_purse(self):
        chooser = random.Random(161)
        seen = set()
        for board, kind, amount in drawn_starts(162, sample_boards() + loop_boards()[::4], 1):
            most = chooser.choice([None, amount, min(2 * amount, LIMIT)])
            purse, twin = [Purse(board, kind, amount) if most is None else CappedPurse(board, kind, amount, most)
                           for repeat in range(2)]
            shells = [Shell(purse), Shell(purse)]
            for repeat in range(40):
                answer = self.check(chooser.choice(shells), purse, twin, self.drawn_line(board, chooser))
                seen.add(answer if answer.startswith("error") else answer.split(" ")[0])
        words = {"NoCounter", "WrongKind", "TooMuch", "BadCoins", "TooManyCounters", "NothingToUndo", "NoKind",
                 "BadAmount", "OverCap"}
        self.assertEqual({answer for answer in seen if answer.startswith("error")}, {"error " + word for word in words})
        self.assertTrue({"ok", "unknown", "route", "growth", "ceiling", "endless"}.issubset(seen))

    def test_answers_of_edits(self):
        purse = Purse(BOARD_A, 0, 2)
        shell = Shell(purse)
        lines = [
            "change 0", "earn 1", "change 1", "close 0", "put up 0>1 5:5", "purse", "undo", "undo", "undo", "purse",
        ]
        self.assertEqual([shell.execute(line) for line in lines], [
            "ok 1", "ok 2", "ok 3", "ok 4", "ok 5", "2 kinds; 0: 4; 1>0 1:1 0>1 5:5", "ok 4", "ok 3", "ok 2",
            "2 kinds; 1: 4; 0>1 2:3 1>0 1:1",
        ])
        self.assertEqual(purse.edits(), (("change", 0), ("earn", 1)))

    def test_the_very_purse(self):
        purse = Purse(BOARD_A, 0, 2)
        one, other = Shell(purse), Shell(purse)
        self.assertEqual([one.execute("earn 3"), purse.amount], ["ok 1", 5])
        self.assertEqual([purse.earn(4), other.execute("purse")], [2, "2 kinds; 0: 9; 0>1 2:3 1>0 1:1"])
        self.assertEqual([other.execute("undo"), one.execute("undo"), one.execute("undo")],
                         ["ok 1", "ok 0", "error NothingToUndo"])

    def test_best(self):
        self.assertEqual(Shell(Purse(BOARD_A, 0, 2)).execute("best"), "3 3")
        self.assertEqual(Shell(Purse(BOARD_A, 0, 4)).execute("best"), "endless endless")
        self.assertEqual(Shell(Purse((1, ()), 0, LIMIT)).execute("best"), "1000000000000")
        board = (3, ((0, 1, 1, 2), (1, 0, 1, 1), (2, 0, 1, 1)))
        self.assertEqual(Shell(Purse(board, 2, 5)).execute("best"), "endless endless 5")
        self.assertEqual(Shell(Purse(board, 2, 0)).execute("best"), "0 0 0")

    def test_can(self):
        shell = Shell(Purse(BOARD_A, 0, 2))
        lines = {"can 1 3": "route", "can 0 2": "route", "can 1 4": "ceiling", "can 0 1000000000000": "ceiling",
                 "can 2 1": "error NoKind", "can 2 0": "error NoKind", "can 1 0": "error BadAmount",
                 "can 1 1000000000001": "error BadAmount", "can 9999999999999 9999999999999": "error NoKind"}
        self.assertEqual({line: shell.execute(line) for line in lines}, lines)
        self.assertEqual(Shell(Purse(BOARD_A, 0, 4)).execute("can 1 1"), "growth")

    def test_a_certificate_that_would_be_too_long(self):
        shell = Shell(Purse(SLOW_BOARD, 0, 688))
        with mock.patch("coincounters.best.MAX_ROUTE", 59):
            self.assertEqual(shell.execute("can 0 759"), "error TooLong")
        self.assertEqual(shell.execute("can 0 759"), "route")

    def test_errors_of_edits(self):
        cases = [
            (Purse(BOARD_A, 0, 2), "change 2", "NoCounter"), (Purse(BOARD_A, 0, 2), "close 9999999999999", "NoCounter"),
            (Purse(BOARD_A, 0, 2), "change 1", "WrongKind"), (Purse(BOARD_A, 0, LIMIT), "change 0", "TooMuch"),
            (Purse(BOARD_A, 0, 2), "earn 1000000000000", "TooMuch"), (Purse(BOARD_A, 0, 2), "earn 0", "BadCoins"),
            (Purse(BOARD_A, 0, 2), "earn 1000000000001", "BadCoins"), (Purse(BOARD_A, 0, 2), "undo", "NothingToUndo"),
            (Purse(FULL_BOARD, 0, 2), "put up 0>1 1:1", "TooManyCounters"),
            (CappedPurse(BOARD_A, 0, 4, 5), "change 0", "OverCap"),
            (CappedPurse(BOARD_A, 0, 4, 5), "earn 2", "OverCap"),
        ]
        for purse, line, name in cases:
            before = view(purse)
            self.assertEqual(Shell(purse).execute(line), "error " + name)
            self.assertEqual(view(purse), before)

    def test_too_many_edits(self):
        purse = purses()[4]
        shell = Shell(purse)
        for line in ("change 0", "change 9", "earn 1", "earn 0", "close 0", "close 9", "put up 0>1 1:1"):
            self.assertEqual(shell.execute(line), "error TooManyEdits")
        self.assertEqual(shell.execute("put up 0>2 1:1"), UNKNOWN)
        self.assertEqual([shell.execute("undo"), shell.execute("close 0")], ["ok 59", "ok 60"])

    def test_while_a_watch_runs(self):
        for purse in [Purse(BOARD_A, 0, 2), CappedPurse(BOARD_A, 0, 2, 3)]:
            shell, answers = Shell(purse), []

            def watch(seen):
                before = view(seen)
                for line in ("change 0", "change 9", "earn 1", "earn 0", "close 0", "undo", "put up 0>1 1:1"):
                    self.assertEqual(shell.execute(line), "error Busy")
                self.assertEqual(shell.execute("put up 0>1 1:6"), UNKNOWN)
                self.assertEqual(shell.execute("earn 01"), UNKNOWN)
                self.assertEqual(view(seen), before)
                answers.extend([shell.execute("purse"), shell.execute("best"), shell.execute("can 1 3")])

            self.assertEqual(purse.attempt([("earn", 1)], watch=watch), 1)
            self.assertEqual(answers, ["2 kinds; 0: 3; 0>1 2:3 1>0 1:1", "3 3", "route"])
            self.assertEqual(shell.execute("undo"), "ok 0")

    def test_counters_for_the_kinds_of_the_board(self):
        for kinds in (1, 2, 3, 4):
            purse = Purse((kinds, ()), 0, 1)
            for source in range(6):
                for to in range(6):
                    right = source != to and source < kinds and to < kinds
                    line = "put up %d>%d 1:5" % (source, to)
                    self.assertEqual(Shell(purse).execute(line), "ok 1" if right else UNKNOWN)
                    if right:
                        self.assertEqual([purse.board[1], purse.undo()], [((source, to, 1, 5),), 0])


if __name__ == "__main__":
    unittest.main()
