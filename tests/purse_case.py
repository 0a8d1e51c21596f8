"""What the tests of purses share."""

import random
import unittest

from coincounters import errors
from coincounters.purses import CappedPurse, Purse
from tests.purse_model import EDIT_NAMES, ModelPurse, view
from tests.reference import best_by_trying
from tests.samples import LIMIT, all_counters

WRONG_NUMBERS = [
    None, True, False, -1, -2, 10 ** 39, -(10 ** 39), "", "0", "1", (), (0,), (1,), [], [0], [1], {}, {"0": 0},
]
WRONG_AMOUNTS = WRONG_NUMBERS + [LIMIT + 1, LIMIT * 2]


class PurseCase(unittest.TestCase):
    def refused(self, name, fields, call, *values, **named):
        """The call raises this very error with these very fields."""
        with self.assertRaises(getattr(errors, name), msg=(values, named)) as caught:
            call(*values, **named)
        self.assertIs(type(caught.exception), getattr(errors, name))
        self.assertEqual(repr(vars(caught.exception)), repr(fields))
        for field, value in fields.items():
            if any(value is each for each in [*values, *named.values()]):
                self.assertIs(getattr(caught.exception, field), value)

    def refused_without_change(self, purse, name, fields, call, *values, **named):
        before = view(purse)
        self.refused(name, fields, call, *values, **named)
        self.assertEqual(view(purse), before)

    def check_state(self, purse, model):
        """The purse shows what the model says, for all versions."""
        board, kind, amount = model.states[-1]
        best = best_by_trying(board, kind, amount)
        edits = tuple(model.edits)
        shown = (board, kind, amount, best, len(edits), model.text(), edits, model.states[-1], model.states)
        self.assertEqual(repr(view(purse)), repr(shown))

    def check_edit(self, purse, model, name, value):
        """The edit has the result, or the error, that the model says."""
        fault = model.fault(name, value)
        if fault is None:
            self.assertEqual(repr(getattr(purse, name)(value)), repr(model.do(name, value)))
        else:
            self.refused(*fault, getattr(purse, name), value)
        self.check_state(purse, model)

    def check_undo(self, purse, model):
        if model.edits:
            self.assertEqual(purse.undo(), model.undo())
        else:
            self.refused("NothingToUndo", {}, purse.undo)
        self.check_state(purse, model)


def purse_and_model(board, kind, amount, most=None):
    """A purse, capped if there is a cap, and its model."""
    purse = Purse(board, kind, amount) if most is None else CappedPurse(board, kind, amount, most)
    return purse, ModelPurse(board, kind, amount, most)


def drawn_value(name, model, chooser):
    """A value for an edit, mostly a right one."""
    (kinds, counters), kind, amount = model.states[-1]
    if chooser.random() < 0.08:
        return chooser.choice(WRONG_AMOUNTS)
    if name == "change":
        right = [index for index, counter in enumerate(counters) if counter[0] == kind]
        return chooser.choice(right) if right and chooser.random() < 0.9 else chooser.randint(-1, 8)
    if name == "close":
        return chooser.randint(0, len(counters))
    if name == "earn":
        return chooser.choice([1, chooser.randint(1, 9), chooser.randint(1, 2000), chooser.randint(1, LIMIT)])
    if kinds == 1 or chooser.random() < 0.05:
        return (0, 1, 1, 1)
    return chooser.choice(all_counters(kinds))


def drawn_edit(model, chooser):
    name = chooser.choice(EDIT_NAMES)
    return name, drawn_value(name, model, chooser)


def right_edit(model, chooser):
    """An edit without an error; model is not full."""
    while True:
        name, value = drawn_edit(model, chooser)
        if model.fault(name, value) is None:
            return name, value


def drawn_wishes(board, chooser, many):
    most = chooser.choice([5, 100, 3000, LIMIT])
    return [(chooser.randrange(board[0]), chooser.randint(1, most)) for repeat in range(many)]


def edited_purse(board, kind, amount, many, seed):
    """A purse after so many right edits, with its model, the same one in each run."""
    chooser = random.Random(seed)
    purse, model = purse_and_model(board, kind, amount)
    for repeat in range(many):
        name, value = right_edit(model, chooser)
        getattr(purse, name)(value)
        model.do(name, value)
    return purse, model
