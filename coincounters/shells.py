"""Shells: lines of text as commands for a purse, answered by texts."""

from coincounters.errors import (
    BadAmount, BadCoins, Busy, NoCounter, NoKind, NothingToUndo, OverCap, TooLong, TooManyCounters, TooManyEdits,
    TooMuch, WrongKind,
)
from coincounters.texts import counter_in, number_in, purse_text

UNKNOWN = "unknown command"


def done_text(version):
    return f"ok {version}"


def best_text(numbers):
    """Returns the greatest numbers as words."""
    return " ".join(["endless" if number is None else str(number) for number in numbers])


class Shell:
    """Commands for this very purse, which others may edit, too."""

    def __init__(self, purse):
        self.purse = purse

    def execute(self, line):
        """Accepts any value. Returns the answer to the command that it is."""
        if not isinstance(line, str):
            return UNKNOWN
        try:
            return self.answer(line.split(" "))
        except Busy:
            return "error Busy"
        except TooManyEdits:
            return "error TooManyEdits"
        except NoCounter:
            return "error NoCounter"
        except WrongKind:
            return "error WrongKind"
        except TooMuch:
            return "error TooMuch"
        except OverCap:
            return "error OverCap"
        except BadCoins:
            return "error BadCoins"
        except TooManyCounters:
            return "error TooManyCounters"
        except NothingToUndo:
            return "error NothingToUndo"
        except NoKind:
            return "error NoKind"
        except BadAmount:
            return "error BadAmount"
        except TooLong:
            return "error TooLong"

    def answer(self, words):
        """Returns the answer to the command that these words are, or raises the error of the purse."""
        if words == ["undo"]:
            return done_text(self.purse.undo())
        if words == ["purse"]:
            return purse_text(self.purse.board, self.purse.kind, self.purse.amount)
        if words == ["best"]:
            return best_text(self.purse.best)
        if words[:2] == ["put", "up"]:
            return self.answer_to_put_up(words[2:])
        numbers = [number_in(word) for word in words[1:]]
        if None in numbers:
            return UNKNOWN
        if words[0] == "can" and len(numbers) == 2:
            return self.purse.certificate(numbers[0], numbers[1])[0]
        return self.answer_to_edit(words[0], numbers[0]) if len(numbers) == 1 else UNKNOWN

    def answer_to_put_up(self, words):
        counter = counter_in(words, self.purse.board[0])
        if counter is None:
            return UNKNOWN
        return done_text(self.purse.put_up(counter))

    def answer_to_edit(self, name, number):
        if name == "change":
            return done_text(self.purse.change(number))
        if name == "earn":
            return done_text(self.purse.earn(number))
        if name == "close":
            return done_text(self.purse.close(number))
        return UNKNOWN
