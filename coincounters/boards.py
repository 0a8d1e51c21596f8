"""Boards: kinds of coins, and the counters between them."""

from coincounters.bounds import MAX_COUNTERS, MAX_KINDS, MAX_RATE
from coincounters.checks import is_between
from coincounters.errors import TooManyCounters, TooManyKinds


def is_kind(value, kinds):
    return is_between(value, 0, kinds - 1)


def is_rate(value):
    return is_between(value, 1, MAX_RATE)


def is_counter(value, kinds):
    """Accepts any value. Returns whether it is a counter for so many kinds."""
    if not isinstance(value, tuple) or len(value) != 4:
        return False
    source, to, give, get = value
    if not is_kind(source, kinds) or not is_kind(to, kinds):
        return False
    return source != to and is_rate(give) and is_rate(get)


def board_error(value):
    """Accepts any value. Returns None for a board, otherwise (index or None, what is wrong first)."""
    if not isinstance(value, tuple) or len(value) != 2:
        return (None, "board")
    kinds, counters = value
    if not is_between(kinds, 1, MAX_KINDS):
        return (None, "kinds")
    if not isinstance(counters, tuple) or len(counters) > MAX_COUNTERS:
        return (None, "counters")
    for index, counter in enumerate(counters):
        if not is_counter(counter, kinds):
            return (index, "counter")
    return None


def is_board(value):
    """Accepts any value. Returns whether it is a board."""
    return board_error(value) is None


def changed(counter, amount):
    """Returns how many coins the counter gives for the amount; the rest is lost."""
    give, get = counter[2:]
    return amount // give * get


def with_counter(board, counter):
    """Returns the board with the counter at the end."""
    kinds, counters = board
    if len(counters) >= MAX_COUNTERS:
        raise TooManyCounters()
    return (kinds, counters + (counter,))


def without_counter(board, index):
    """Returns the board without the counter with this number."""
    kinds, counters = board
    return (kinds, counters[:index] + counters[index + 1:])


def renamed_counters(counters, names):
    return tuple([(names[source], names[to], give, get) for source, to, give, get in counters])


def renamed(board, names):
    """Returns the board in which kind k is called names[k]."""
    kinds, counters = board
    return (kinds, renamed_counters(counters, names))


def side_by_side(boards):
    """Returns the boards as one, with kinds of its own for each, whatever its size."""
    kinds = 0
    counters = ()
    for more_kinds, more_counters in boards:
        names = tuple(range(kinds, kinds + more_kinds))
        counters += renamed_counters(more_counters, names)
        kinds += more_kinds
    return (kinds, counters)


def on_top(boards):
    """Returns the boards as one, with the same kinds for all, whatever its size."""
    kinds = 0
    counters = ()
    for more_kinds, more_counters in boards:
        counters += more_counters
        kinds = max(kinds, more_kinds)
    return (kinds, counters)


def merged(*boards, apart=False):
    """Returns one board with the counters of all; with apart=True no two boards share a kind."""
    kinds, counters = side_by_side(boards) if apart else on_top(boards)
    if kinds > MAX_KINDS:
        raise TooManyKinds()
    if len(counters) > MAX_COUNTERS:
        raise TooManyCounters()
    return (kinds, counters)
