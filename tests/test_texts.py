"""purse_text, parse_purse and Purse.read."""

import random
import unittest

from coincounters.purses import Purse
from coincounters.texts import parse_purse, purse_text
from tests.purse_case import PurseCase
from tests.purse_model import text_fault, text_of
from tests.samples import (
    BOARD_A, FULL_BOARD, LIMIT, drawn_starts, loop_boards, sample_boards, values_that_are_no_number,
    values_that_are_no_pair, values_that_are_no_tuple,
)

TEXT_A = "2 kinds; 0: 7; 0>1 2:3 1>0 1:1"
CHARACTERS = "0123456789 ;:>kinds-+_.,x\n\\'\""


def drawn_states(seed):
    return drawn_starts(seed, sample_boards() + loop_boards(), 2) + [((1, ()), 0, 0), (FULL_BOARD, 2, LIMIT)]


class PurseTextTest(unittest.TestCase):
    def test_drawn_states(self):
        for state in drawn_states(141):
            text = purse_text(*state)
            self.assertIs(type(text), str)
            self.assertEqual(text, text_of(*state))
            self.assertIsNone(text_fault(text))

    def test_no_counters_and_many(self):
        self.assertEqual(purse_text((4, ()), 3, 0), "4 kinds; 3: 0;")
        self.assertEqual(purse_text((3, FULL_BOARD[1]), 0, LIMIT),
                         "3 kinds; 0: 1000000000000; 0>1 1:5 1>2 5:1 2>0 2:3 0>2 4:4 0>1 1:5 2>1 3:2 1>0 1:1 0>2 5:5")


class ParsePurseTest(PurseCase):
    def check(self, value):
        """The text is accepted exactly if it is the text of what is returned, by both functions."""
        fault = text_fault(value)
        if fault is None:
            state = parse_purse(value)
            self.assertEqual(text_of(*state), value)
            self.assertEqual(purse_text(*state), value)
            self.assertEqual(repr(Purse.read(value).state()), repr(state))
        else:
            self.check_refused(value, None if fault == "whole" else fault)
        return fault

    def check_refused(self, value, index):
        self.refused("BadText", {"index": index}, parse_purse, value)
        self.refused("BadText", {"index": index}, Purse.read, value)

    def test_texts_of_drawn_states(self):
        for state in drawn_states(142):
            text = text_of(*state)
            self.assertEqual(repr(parse_purse(text)), repr(state))
            self.assertIsNone(self.check(text))

    def test_every_character_left_out_put_in_or_replaced(self):
        texts = [TEXT_A, "1 kinds; 0: 5;", "4 kinds; 3: 1000000000000; 3>2 5:5", "3 kinds; 2: 10; 2>1 1:4 0>2 3:2"]
        seen = set()
        for text in texts:
            for at in range(len(text) + 1):
                seen.add(self.check(text[:at] + text[at + 1:]))
                seen.add(self.check(text[:at]))
                for character in CHARACTERS:
                    seen.add(self.check(text[:at] + character + text[at:]))
                    seen.add(self.check(text[:at] + character + text[at + 1:]))
        self.assertTrue({None, 0, 1, 2, 3, 4, 6, 8}.issubset(seen))

    def test_drawn_texts_with_drawn_changes(self):
        chooser = random.Random(143)
        for state in drawn_states(144):
            text = text_of(*state)
            for repeat in range(20):
                at, other = chooser.randrange(len(text)), chooser.randrange(len(text))
                character = chooser.choice(CHARACTERS)
                self.check(text[:at] + character + text[at + 1:])
                self.check(text[:at] + text[at + 1:])
                self.check(text[:at] + character + text[at:])
                self.check(text[:min(at, other)] + text[max(at, other):])
                words = text.split(" ")
                chooser.shuffle(words)
                self.check(" ".join(words))

    def test_words_left_out_doubled_and_exchanged(self):
        for text in [TEXT_A, text_of(FULL_BOARD, 0, 77)]:
            words = text.split(" ")
            for at in range(len(words) + 1):
                self.check(" ".join(words[:at]))
                self.check(" ".join(words[:at] + words[at + 1:]))
                self.check(" ".join(words[:at] + words[at:at + 1] + words[at:]))
                self.check(" ".join(words[:at] + [""] + words[at:]))
                self.check(" ".join(words[:at] + words[at + 1:at + 2] + words[at:at + 1] + words[at + 2:]))

    def test_values_that_are_no_texts(self):
        values = values_that_are_no_tuple() + values_that_are_no_pair() + values_that_are_no_number()
        values += [(BOARD_A, 0, 7), [TEXT_A], (TEXT_A,), {TEXT_A: 1}, TEXT_A.encode(), Purse(BOARD_A, 0, 7)]
        for value in [value for value in values if type(value) is not str]:
            self.check_refused(value, None)

    def test_word_0(self):
        wrong = [
            "", "0", "5", "10", "01", "02", "00", "+2", "-2", "2_", "2.", "2;", "two", "\n2", "2\n", "_2", "2_0",
            "9" * 2000, "0" * 2000, "\u00b2", "\u0662",
        ]
        for word in wrong:
            for rest in ["", " kinds; 0: 7;", " x", " kinds; 9: x"]:
                self.check_refused(word + rest, 0)

    def test_word_1(self):
        for word in ["", "kinds", "kinds:", "kind;", "Kinds;", "kinds;;", "kinds;\n", "0:", "kinds; "]:
            self.check_refused("2 " + word, 1 if word != "kinds; " else 2)
        self.check_refused("2", 1)
        self.check_refused("2  kinds; 0: 7;", 1)
        self.check_refused("2\nkinds; 0: 7;", 0)

    def test_word_2(self):
        for word in ["", "0", ":", "0;", "2:", "00:", "01:", "-0:", "+1:", "_1:", "1_:", "0::", "0:\n", "1 :", "0:7;"]:
            self.check_refused("2 kinds; " + word, 2)
            self.check_refused("2 kinds; " + word + " 7; 0>0 x", 2)
        self.check_refused("2 kinds;", 2)
        for kinds in (1, 2, 3, 4):
            for kind in range(6):
                fault = self.check("%d kinds; %d: 0;" % (kinds, kind))
                self.assertEqual(fault, None if kind < kinds else 2)

    def test_word_3(self):
        for word in ["", "7", ";", "7:", "07;", "00;", "-7;", "-0;", "+7;", "1_000;", "_7;", "7;;", "7;\n", "7 ;", "x;",
                     "1000000000001;", "9999999999999;", "10000000000000;", "9" * 2000 + ";", "0" * 13 + ";", "1e3;"]:
            self.check_refused("2 kinds; 0: " + word, 3)
            self.check_refused("2 kinds; 0: " + word + " 0>0 x", 3)
        self.check_refused("2 kinds; 0:", 3)
        for amount in (0, 1, 9, 10, 999999999999, LIMIT):
            self.assertEqual(parse_purse("2 kinds; 1: %d;" % amount), ((2, ()), 1, amount))

    def test_counters_that_are_none(self):
        wrong = [
            "", "0>1", "0>1 ", " 2:3", "0>0 1:1", "0>2 1:1", "2>0 1:1", "0>1 0:1", "0>1 1:0", "0>1 6:1", "0>1 1:6",
            "0>1 1:10", "00>1 1:1", "0>01 1:1", "0>1 01:1", "0>1 1:01", "-0>1 1:1", "0>+1 1:1", "0>1 1:_1", "0<1 1:1",
            "0>1 1;1", "01 1:1", "0>1 11", "0>1>0 1:1", "0>1 1:1:1", "0>1 1:1\n", "0>1\n 1:1", "1:1 0>1", "0>1>1 1",
            "0 1>1:1", ">1 1:1", "0> 1:1", "0>1 :1", "0>1 1:",
        ]
        for counter in wrong:
            for many in range(8):
                text = "2 kinds; 0: 7;" + " 1>0 2:3" * many + " " + counter
                self.check_refused(text, 4 + 2 * many)
                self.check_refused(text + " 0>1 1:1", 4 + 2 * many)
                self.check_refused(text + " 0>0", 4 + 2 * many)

    def test_eight_and_nine_counters(self):
        text = "2 kinds; 0: 7;" + " 0>1 2:3" * 8
        self.assertEqual(parse_purse(text), ((2, ((0, 1, 2, 3),) * 8), 0, 7))
        for more in [" 0>1 2:3", " 0>0 2:3", " 0>1", " ", "  ", " 0>1 2:3" * 200, " x y z"]:
            self.check_refused(text + more, 20)
        self.check_refused(text.replace("2:3", "2:6") + " 0>1 2:3", 4)
        self.check_refused(text[:-1] + "6 0>1 2:3", 18)

    def test_two_spaces(self):
        self.check_refused(" " + TEXT_A, 0)
        self.check_refused("2  kinds; 0: 7;", 1)
        self.check_refused("2 kinds;  0: 7;", 2)
        self.check_refused("2 kinds; 0:  7;", 3)
        self.check_refused("2 kinds; 0: 7;  0>1 2:3", 4)
        self.check_refused("2 kinds; 0: 7; 0>1  2:3", 4)
        self.check_refused("2 kinds; 0: 7; 0>1 2:3  1>0 1:1", 6)
        self.check_refused("2 kinds; 0: 7; ", 4)
        self.check_refused(TEXT_A + " ", 8)

    def test_other_texts(self):
        for text in ["", " ", "  ", "\n", "purse", str(Purse(BOARD_A, 0, 7)), repr(BOARD_A), TEXT_A.upper(), TEXT_A * 2,
                     TEXT_A + "\n", "\n" + TEXT_A, TEXT_A.replace(" ", "\n"), TEXT_A.replace(" ", "\t"), "x " * 1000]:
            self.assertIsNotNone(self.check(text))

    def test_very_long_words(self):
        for text in ["9" * 5000, "2 kinds; 0: " + "9" * 5000 + ";", "2 kinds; " + "0" * 5000 + ": 7;"]:
            self.assertIsNotNone(self.check(text))


class ReadTest(PurseCase):
    def test_a_new_purse(self):
        purse, other = Purse.read(TEXT_A), Purse.read(TEXT_A)
        self.assertIs(type(purse), Purse)
        self.assertEqual([purse.state(), len(purse), purse.edits()], [(BOARD_A, 0, 7), 0, ()])
        self.assertEqual(purse.best, (None, None))
        purse.earn(1)
        self.assertEqual(other.amount, 7)
        self.assertFalse(purse == other)

    def test_the_purse_of_a_drawn_text(self):
        for state in drawn_states(145):
            self.assertTrue(Purse.read(text_of(*state)) == Purse(*state))


if __name__ == "__main__":
    unittest.main()
