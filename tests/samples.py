"""Boards and other values for the tests."""

import itertools
import random

LIMIT = 10 ** 12

BOARD_A = (2, ((0, 1, 2, 3), (1, 0, 1, 1)))

BOARD_C = (2, ((0, 1, 2, 5), (1, 0, 1, 1)))

BOARD_G = (3, ((0, 1, 1, 1), (0, 2, 4, 5), (2, 1, 1, 1)))

# From 688 coins of kind 0 this loop rises to 759 in fifteen turns, and no loop of four counters takes more.
SLOW_BOARD = (4, ((0, 1, 4, 3), (1, 2, 2, 3), (2, 3, 5, 3), (3, 0, 2, 3)))

# The loop of four counters with the greatest growth start.
LATE_BOARD = (4, ((0, 1, 5, 3), (1, 2, 4, 3), (2, 3, 4, 3), (3, 0, 1, 3)))

# Three loops that differ in one counter: none of them grows from 263 coins of kind 0, but they help each other.
HELPING_BOARD = (4, ((0, 1, 3, 1), (1, 2, 3, 3), (1, 2, 4, 4), (1, 2, 5, 5), (2, 3, 2, 5), (3, 0, 4, 5)))

FULL_BOARD = (3, ((0, 1, 1, 5), (1, 2, 5, 1), (2, 0, 2, 3), (0, 2, 4, 4),
                  (0, 1, 1, 5), (2, 1, 3, 2), (1, 0, 1, 1), (0, 2, 5, 5)))


def all_counters(kinds):
    """Every counter for so many kinds."""
    pairs = itertools.permutations(range(kinds), 2)
    rates = list(itertools.product(range(1, 6), repeat=2))
    return [pair + rate for pair in pairs for rate in rates]


def sample_boards():
    """Boards of each number of kinds with each number of counters, the same ones in each run."""
    chooser = random.Random(20)
    boards = [(1, ())]
    for kinds in (2, 3, 4):
        counters = all_counters(kinds)
        for many in range(9):
            for repeat in range(4):
                boards.append((kinds, tuple(chooser.choice(counters) for place in range(many))))
    return boards


def loop_boards():
    """Boards with a loop through all their kinds and some more counters, the same ones in each run."""
    chooser = random.Random(30)
    boards = [BOARD_A, BOARD_C, SLOW_BOARD, LATE_BOARD, HELPING_BOARD]
    for kinds in (2, 3, 4):
        counters = all_counters(kinds)
        for repeat in range(40):
            ring = [(kind, (kind + 1) % kinds, chooser.randint(1, 5), chooser.randint(1, 5)) for kind in range(kinds)]
            more = [chooser.choice(counters) for place in range(chooser.randint(0, 8 - kinds))]
            boards.append((kinds, tuple(ring + more)))
    return boards


def drawn_route(board, kind, many, chooser):
    """A route of so many counters, or of fewer where none leads on."""
    route = ()
    while len(route) < many:
        choices = [index for index, counter in enumerate(board[1]) if counter[0] == kind]
        if not choices:
            break
        route += (chooser.choice(choices),)
        kind = board[1][route[-1]][1]
    return route


def drawn_starts(seed, boards, many):
    """Triples of a board, a kind and an amount, with amounts of all sizes, the same ones in each run."""
    chooser = random.Random(seed)
    starts = []
    for board in boards:
        for repeat in range(many):
            most = chooser.choice([10, 100, 2000, LIMIT])
            starts.append((board, chooser.randrange(board[0]), chooser.randint(0, most)))
    return starts


def nested(value, levels):
    for level in range(levels):
        value = (value,)
    return value


def nested_list(value, levels):
    for level in range(levels):
        value = [value]
    return value


def values_that_are_no_tuple():
    return [
        None, True, False, 0, 1, -1, 2, 10 ** 39, -(10 ** 39), "", "board", "2 kinds; 0: 7;", "x\n" * 1000,
        [], [2, ()], [2, ((0, 1, 2, 3),)], [2, [[0, 1, 2, 3]]], {}, {"n": 2, "counters": ()},
        {"2": {"0": [1, (2, None)]}}, list(range(999)), nested_list(None, 19),
    ]


def damaged(value):
    """The value with parts replaced, left out, repeated, exchanged or put into lists, and values of other kinds."""
    others = [None, True, False, -1, 0, 1, 2, 7, 8, 10 ** 39, "", "0", "route", "ceiling", "growth", (), (0,), [], {}]
    results = list(others)
    if isinstance(value, tuple):
        results += [list(value), value + value, value + (0,), value + (None,), (value,)]
        for at, item in enumerate(value):
            before, behind = value[:at], value[at + 1:]
            results += [before + behind, before + (item, item) + behind]
            results += [before + (other,) + behind for other in damaged_part(item)]
        for one, other in itertools.combinations(range(len(value)), 2):
            exchanged = list(value)
            exchanged[one], exchanged[other] = value[other], value[one]
            results.append(tuple(exchanged))
    return results


def damaged_part(value):
    near = [value - 1, value + 1, str(value), (value,)] if isinstance(value, int) else []
    return near + damaged(value)


def values_that_are_no_pair():
    return [
        (), (2,), (2, (), ()), (2, (), None), ((2, ()),), nested((2, ()), 1), nested(None, 19),
        (0, 1, 2, 3), tuple(range(999)), ((0, 1, 2, 3), (1, 0, 1, 1), (1, 0, 1, 1)),
    ]


def values_that_are_no_number():
    """Values that no number may be, the bools that equal a number among them."""
    return [None, True, False, "", "1", "2", (), (1,), (2,), [], [1], {}, {"1": 1}]
