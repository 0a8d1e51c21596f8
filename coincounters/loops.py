"""Loops: routes that lead back to their first kind, turned again and again."""

from coincounters.bounds import MAX_LOOP
from coincounters.checks import is_between
from coincounters.routes import coins_after, least_start, period_of, run_if_route


def loop_kind(board, loop):
    """Returns the kind at which the loop begins and ends."""
    return board[1][loop[0]][0]


def is_loop(board, value):
    """Accepts any value as the second argument. Returns whether it is a loop."""
    if not isinstance(value, tuple) or not 1 <= len(value) <= MAX_LOOP:
        return False
    if not is_between(value[0], 0, len(board[1]) - 1):
        return False
    kind = loop_kind(board, value)
    end = run_if_route(board, kind, 0, value)
    return end is not None and end[0] == kind


def turn_of(board, loop, amount):
    """Returns how many coins the loop gives for the amount."""
    return coins_after(board, loop, amount)


def least_to_turn(board, loop, wanted):
    """Returns the least amount whose turn is at least wanted."""
    return least_start(board, loop_kind(board, loop), loop, wanted)


def loop_period(board, loop):
    """Returns the product of give and the product of get of the loop."""
    return period_of(board, loop_kind(board, loop), loop)


def fixed_amounts(board, loop, most):
    """Yields the fixed amounts up to most in ascending order."""
    amount = 0
    while amount <= most:
        turn = turn_of(board, loop, amount)
        if turn == amount:
            yield amount
            amount += 1
        elif turn > amount:
            # Up to that turn every amount has a turn that is at least as great, so none is fixed.
            amount = turn
        else:
            # Below that start every amount from here on has a turn below this one, so none is fixed.
            amount = least_to_turn(board, loop, amount)


def settled(board, loop, amount):
    """Returns the fixed amount that an amount which does not grow comes to."""
    turn = turn_of(board, loop, amount)
    while turn != amount:
        amount = turn
        turn = turn_of(board, loop, amount)
    return amount


def growth_start(board, loop):
    """Returns the least amount that grows without end, or None."""
    give_product, get_product = loop_period(board, loop)
    more = get_product - give_product
    if more <= 0:
        return None
    # The turn of m * give_product + r is at least m * get_product. So it is above the amount if m * more is above r,
    # and r is at most give_product - 1: this is the last amount that may not grow.
    last = ((give_product - 1) // more + 1) * give_product - 1
    while turn_of(board, loop, last) > last:
        # From that start on each amount below last has a turn of at least last, so none of them stays or falls.
        last = least_to_turn(board, loop, last) - 1
    return last + 1


def greatest_fixed(board, loop):
    """Returns the greatest fixed amount, or None if there is no greatest one."""
    give_product, get_product = loop_period(board, loop)
    if give_product == get_product:
        return None
    start = growth_start(board, loop)
    # Without growth, every turn of an amount above 0 is less than the amount.
    return 0 if start is None else settled(board, loop, start - 1)


def fate_of(board, loop, amount):
    """Returns what becomes of the amount if it is turned again and again."""
    start = growth_start(board, loop)
    if start is not None and amount >= start:
        return ("grows",)
    end = settled(board, loop, amount)
    if end == amount:
        return ("stays", amount)
    return ("falls", end) if end < amount else ("rises", end)


def longer_paths(board, paths):
    """Returns the paths with one counter more; a path is a route with the tuple of all its kinds."""
    return [
        (route + (index,), kinds + (counter[1],))
        for route, kinds in paths
        for index, counter in enumerate(board[1])
        if counter[0] == kinds[-1]
    ]


def loops_at(board, kind):
    """Returns the ascending tuple of the loops at the kind that come to no kind twice before their end."""
    loops = []
    paths = [((), (kind,))]
    # A route that comes to no kind twice has no more counters than there are kinds.
    for step in range(board[0]):
        longer = longer_paths(board, paths)
        loops += [route for route, kinds in longer if kinds[-1] == kind]
        paths = [(route, kinds) for route, kinds in longer if kinds[-1] not in kinds[:-1]]
    return tuple(sorted(loops))
