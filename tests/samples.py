"""Boards and other values for the tests."""

import itertools
import random

BOARD_A = (2, ((0, 1, 2, 3), (1, 0, 1, 1)))

FULL_BOARD = (3, ((0, 1, 1, 5), (1, 2, 5, 1), (2, 0, 2, 3), (0, 2, 4, 4),
                  (0, 1, 1, 5), (2, 1, 3, 2), (1, 0, 1, 1), (0, 2, 5, 5)))


def all_counters(kinds):
    """Every counter for so many kinds."""
    pairs = itertools.permutations(range(kinds), 2)
    rates = list(itertools.product(range(1, 6), repeat=2))
    return [pair + rate for pair in pairs for rate in rates]


def sample_boards():
    """Boards of each number of kinds with each number of counters, the same ones in each run."""
    chooser = random.Random(20)
    boards = [(1, ())]
    for kinds in (2, 3, 4):
        counters = all_counters(kinds)
        for many in range(9):
            for repeat in range(4):
                boards.append((kinds, tuple(chooser.choice(counters) for place in range(many))))
    return boards


def nested(value, levels):
    for level in range(levels):
        value = (value,)
    return value


def nested_list(value, levels):
    for level in range(levels):
        value = [value]
    return value


def values_that_are_no_tuple():
    return [
        None, True, False, 0, 1, -1, 2, 10 ** 39, -(10 ** 39), "", "board", "2 kinds; 0: 7;", "x\n" * 1000,
        [], [2, ()], [2, ((0, 1, 2, 3),)], [2, [[0, 1, 2, 3]]], {}, {"n": 2, "counters": ()},
        {"2": {"0": [1, (2, None)]}}, list(range(999)), nested_list(None, 19),
    ]


def values_that_are_no_pair():
    return [
        (), (2,), (2, (), ()), (2, (), None), ((2, ()),), nested((2, ()), 1), nested(None, 19),
        (0, 1, 2, 3), tuple(range(999)), ((0, 1, 2, 3), (1, 0, 1, 1), (1, 0, 1, 1)),
    ]


def values_that_are_no_number():
    """Values that no number may be, the bools that equal a number among them."""
    return [None, True, False, "", "1", "2", (), (1,), (2,), [], [1], {}, {"1": 1}]
