"""The errors of the package, each with the fields that it is constructed from."""


class CoinError(ValueError):
    """The base of all errors here that are not failed look-ups."""


class BadRoute(CoinError):
    """The item with this index does not continue a route; None if the value as a whole is wrong."""

    def __init__(self, index):
        self.index = index


class TooLong(CoinError):
    """A route has, or would need, more counters than the bound."""

    def __init__(self, bound):
        self.bound = bound


class TooMany(CoinError):
    """More steps were asked for than the bound."""

    def __init__(self, bound):
        self.bound = bound


class TooManyCounters(CoinError):
    """A board would have more than MAX_COUNTERS counters."""


class TooManyKinds(CoinError):
    """A board would have more than MAX_KINDS kinds."""


class BadBoard(CoinError):
    """The value is not a board; error is what board_error says of it."""

    def __init__(self, error):
        self.error = error


class BadAmount(CoinError):
    """The value is not an amount."""

    def __init__(self, value):
        self.value = value


class Busy(CoinError):
    """A purse is edited while a watch of it runs."""


class TooManyEdits(CoinError):
    """MAX_EDITS edits of a purse stand."""


class WrongKind(CoinError):
    """The counter takes coins of the kind source, and the coins are of another one."""

    def __init__(self, source):
        self.source = source


class TooMuch(CoinError):
    """There would be this many coins, more than LIMIT."""

    def __init__(self, coins):
        self.coins = coins


class BadCoins(CoinError):
    """The value is not a number of coins that can be earned."""

    def __init__(self, value):
        self.value = value


class BadCounter(CoinError):
    """The value is not a counter for the kinds of the board."""

    def __init__(self, value):
        self.value = value


class NothingToUndo(CoinError):
    """No edit of a purse stands."""


class BadEdits(CoinError):
    """The value is not a list or tuple of at most BATCH items."""


class BadEdit(CoinError):
    """The item with this index is not an edit."""

    def __init__(self, index):
        self.index = index


class Rejected(CoinError):
    """The edit with this index raised an error."""

    def __init__(self, index):
        self.index = index


class OverCap(CoinError):
    """There are, or would be, this many coins, more than the cap allows."""

    def __init__(self, coins):
        self.coins = coins


class BadText(CoinError):
    """The word with this index is wrong; None if the value is not a text."""

    def __init__(self, index):
        self.index = index


class NoKind(LookupError):
    """The value is not a kind of the board."""

    def __init__(self, value):
        self.value = value


class NoCounter(LookupError):
    """The value is not the number of a counter."""

    def __init__(self, value):
        self.value = value


class NoVersion(LookupError):
    """The value is not a version of the purse."""

    def __init__(self, value):
        self.value = value
