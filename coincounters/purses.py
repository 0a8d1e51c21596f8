"""Purses: coins of one kind and a board, changed by edits that can be undone."""

from coincounters.best import best_from, find_certificate, route_to
from coincounters.boards import board_error, changed, is_counter, is_kind, with_counter, without_counter
from coincounters.bounds import BATCH, LIMIT, MAX_EDITS
from coincounters.caps import Cap
from coincounters.checks import is_amount, is_between
from coincounters.errors import (
    BadAmount, BadBoard, BadCoins, BadCounter, BadEdit, BadEdits, Busy, CoinError, NoCounter, NoKind, NothingToUndo,
    NoVersion, Rejected, TooManyEdits, TooMuch, WrongKind,
)
from coincounters.texts import parse_purse


def is_edit(value):
    """Accepts any value. Returns whether it is the name of an edit with the one value that each of them takes."""
    return isinstance(value, tuple) and len(value) == 2 and value[0] in ("change", "earn", "put_up", "close")


def check_batch(batch):
    """Accepts a list of any values. Raises BadEdit for the first one that is not an edit."""
    for index, edit in enumerate(batch):
        if not is_edit(edit):
            raise BadEdit(index)


def do_edit(purse, edit):
    """Does the edit that its name says."""
    name, value = edit
    if name == "change":
        purse.change(value)
    elif name == "earn":
        purse.earn(value)
    elif name == "put_up":
        purse.put_up(value)
    else:
        purse.close(value)


class Purse:
    """A board and coins of one kind.

    board, kind, amount and best are the present ones. past has a pair for each edit that stands: the edit, and the
    state before it. It is a tuple, so that whoever keeps it can put it back. watched is True while a watch runs.
    """

    # This is MAX_EDITS, written out, as a class value has to be.
    MOST_EDITS = 60

    def __init__(self, board, kind, amount):
        error = board_error(board)
        if error is not None:
            raise BadBoard(error)
        if not is_kind(kind, board[0]):
            raise NoKind(kind)
        if not is_amount(amount):
            raise BadAmount(amount)
        self.past = ()
        self.watched = False
        self.take_state(board, kind, amount)

    def take_state(self, board, kind, amount):
        self.board = board
        self.kind = kind
        self.amount = amount
        self.best = best_from(board, kind, amount)

    def check_free(self):
        if self.watched:
            raise Busy()

    def check_room_for_edit(self):
        """Raises the errors that all edits have in common."""
        self.check_free()
        if len(self.past) >= MAX_EDITS:
            raise TooManyEdits()

    def check_index(self, index):
        if not is_between(index, 0, len(self.board[1]) - 1):
            raise NoCounter(index)

    def check_coins(self, coins):
        """Raises an error if there cannot be so many coins after an edit."""
        if coins > LIMIT:
            raise TooMuch(coins)

    def keep_edit(self, edit, board, kind, amount):
        """Does an edit without errors by its results, and returns the new version."""
        self.past = self.past + ((edit, self.state()),)
        self.take_state(board, kind, amount)
        return len(self.past)

    def change(self, index):
        """Hands in all coins at the counter with this number. Returns the new version."""
        self.check_room_for_edit()
        self.check_index(index)
        counter = self.board[1][index]
        if counter[0] != self.kind:
            raise WrongKind(counter[0])
        coins = changed(counter, self.amount)
        self.check_coins(coins)
        return self.keep_edit(("change", index), self.board, counter[1], coins)

    def earn(self, coins):
        """Adds coins of the present kind. Returns the new version."""
        self.check_room_for_edit()
        if not is_between(coins, 1, LIMIT):
            raise BadCoins(coins)
        self.check_coins(self.amount + coins)
        return self.keep_edit(("earn", coins), self.board, self.kind, self.amount + coins)

    def put_up(self, counter):
        """Puts the counter at the end of the board. Returns the new version."""
        self.check_room_for_edit()
        if not is_counter(counter, self.board[0]):
            raise BadCounter(counter)
        return self.keep_edit(("put_up", counter), with_counter(self.board, counter), self.kind, self.amount)

    def close(self, index):
        """Removes the counter with this number from the board. Returns the new version."""
        self.check_room_for_edit()
        self.check_index(index)
        return self.keep_edit(("close", index), without_counter(self.board, index), self.kind, self.amount)

    def undo(self):
        """Removes the last edit that stands. Returns the new version."""
        self.check_free()
        if len(self.past) == 0:
            raise NothingToUndo()
        edit, (board, kind, amount) = self.past[-1]
        self.past = self.past[:-1]
        self.take_state(board, kind, amount)
        return len(self.past)

    def attempt(self, edits, *, watch=None):
        """Does all edits, or those until watch returns a true value, or none. Returns how many were done."""
        self.check_free()
        if not isinstance(edits, (list, tuple)) or len(edits) > BATCH:
            raise BadEdits()
        # watch may change the list.
        batch = list(edits)
        check_batch(batch)
        return self.do_all_or_none(batch, watch)

    def do_all_or_none(self, batch, watch):
        past, board, kind, amount, best = self.past, self.board, self.kind, self.amount, self.best
        done = None
        try:
            done = self.do_edits(batch, watch)
        finally:
            # Here, as watch may raise exceptions of all classes.
            if done is None:
                self.past, self.board, self.kind, self.amount, self.best = past, board, kind, amount, best
        return done

    def do_edits(self, batch, watch):
        """Does the edits until watch returns a true value. Returns how many were done."""
        for index, edit in enumerate(batch):
            try:
                do_edit(self, edit)
            except (CoinError, NoCounter) as reason:
                raise Rejected(index) from reason
            if watch is not None and self.is_stopped_by(watch):
                return index + 1
        return len(batch)

    def is_stopped_by(self, watch):
        """Returns whether watch returns a true value; until then no method changes this purse."""
        self.watched = True
        try:
            return bool(watch(self))
        finally:
            self.watched = False

    def state(self, *, version=None):
        """Returns (board, kind, amount), now or after so many of the edits that stand."""
        if version is None:
            version = len(self.past)
        if not is_between(version, 0, len(self.past)):
            raise NoVersion(version)
        if version < len(self.past):
            return self.past[version][1]
        return (self.board, self.kind, self.amount)

    def check_wish(self, target, wanted):
        if not is_kind(target, self.board[0]):
            raise NoKind(target)
        if not is_between(wanted, 1, LIMIT):
            raise BadAmount(wanted)

    def certificate(self, target, wanted, *, version=None):
        """Returns a certificate for the coins, now or after so many edits, and the wish."""
        board, kind, amount = self.state(version=version)
        self.check_wish(target, wanted)
        return find_certificate(board, kind, amount, target, wanted)

    def walk(self, target, wanted):
        """Yields (index, kind, amount) for each counter of the shortest route that fulfils the wish."""
        self.check_wish(target, wanted)
        board, kind, amount = self.state()
        for index in route_to(board, kind, amount, target, wanted):
            counter = board[1][index]
            amount = changed(counter, amount)
            yield (index, counter[1], amount)

    def edits(self):
        """Returns the tuple of the edits that stand, the first one first."""
        return tuple([edit for edit, state in self.past])

    @classmethod
    def read(cls, text):
        """Accepts any value. Returns a new purse from the text of a purse."""
        board, kind, amount = parse_purse(text)
        return cls(board, kind, amount)

    def cap_or_none(self):
        """Returns the cap by which two purses with the same coins and counters may still differ."""
        return None

    def __eq__(self, other):
        return isinstance(other, Purse) and self.state() == other.state() and self.cap_or_none() == other.cap_or_none()

    def __len__(self):
        return len(self.past)

    def __str__(self):
        return ", ".join([
            f"{self.board[0]} kinds",
            f"{len(self.board[1])} counters",
            f"{self.amount} coins of kind {self.kind}",
            f"{len(self.past)} edits",
        ])


class CappedPurse(Purse, Cap):
    """A purse in which there are never more coins than most."""

    def __init__(self, board, kind, amount, most):
        Purse.__init__(self, board, kind, amount)
        Cap.__init__(self, most)
        # This raises OverCap.
        self.room(amount)

    def check_coins(self, coins):
        super().check_coins(coins)
        # This raises OverCap.
        self.room(coins)

    def cap_or_none(self):
        return self.most
