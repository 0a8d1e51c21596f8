"""Routes: what becomes of an amount from counter to counter."""

from coincounters.boards import changed
from coincounters.bounds import MAX_ROUTE, SMALL_ROUTE, SMALL_STEPS
from coincounters.checks import is_between
from coincounters.errors import BadRoute, TooLong, TooMany


def leads_on(board, kind, value):
    """Accepts any value as the last argument. Returns whether it is the number of a counter for this kind."""
    counters = board[1]
    return is_between(value, 0, len(counters) - 1) and counters[value][0] == kind


def run(board, kind, amount, value):
    """Accepts any value as the last argument. Returns (kind, amount) after the route that it is."""
    if not isinstance(value, tuple) or len(value) > MAX_ROUTE:
        raise BadRoute(None)
    for index, item in enumerate(value):
        if not leads_on(board, kind, item):
            raise BadRoute(index)
        counter = board[1][item]
        kind = counter[1]
        amount = changed(counter, amount)
    return (kind, amount)


def run_if_route(board, kind, amount, value):
    """Accepts any value as the last argument. Returns what run returns, or None if it is not a route."""
    try:
        return run(board, kind, amount, value)
    except BadRoute:
        return None


def coins_after(board, route, amount):
    """Returns how many coins the route gives for the amount."""
    for index in route:
        amount = changed(board[1][index], amount)
    return amount


def least_before(counter, wanted):
    """Returns the least amount for which the counter gives at least wanted coins."""
    give, get = counter[2:]
    times = (wanted + get - 1) // get
    return give * times


def least_start(board, kind, route, wanted):
    """Returns the least amount for which the route gives at least wanted coins."""
    for index in reversed(route):
        wanted = least_before(board[1][index], wanted)
    return wanted


def comes_out(board, kind, route, wanted):
    """Returns whether the route gives exactly wanted coins for some amount."""
    # More coins are never worse, so no greater amount gives less than the least one that is enough.
    return coins_after(board, route, least_start(board, kind, route, wanted)) == wanted


def period_of(board, kind, route):
    """Returns the product of give and the product of get of all counters of the route."""
    give_product = 1
    get_product = 1
    for index in route:
        give, get = board[1][index][2:]
        give_product *= give
        get_product *= get
    return (give_product, get_product)


def common_multiple(one, other):
    """Returns the least common multiple of two numbers from 1 on."""
    divisor, rest = one, other
    while rest > 0:
        divisor, rest = rest, divisor % rest
    return one // divisor * other


def find_difference(board, kind, route, other):
    """Returns the least amount for which the two routes give different numbers, or None if there is none."""
    if max(len(route), len(other)) > SMALL_ROUTE:
        raise TooLong(SMALL_ROUTE)
    # After so many coins both routes begin anew, each with its own number of coins in addition.
    most = common_multiple(period_of(board, kind, route)[0], period_of(board, kind, other)[0])
    for amount in range(most + 1):
        if coins_after(board, route, amount) != coins_after(board, other, amount):
            return amount
    return None


def after_any_counter(board, had):
    """Returns a list of the pairs (kind, amount) that one counter makes of such pairs."""
    return [
        (counter[1], changed(counter, amount))
        for kind, amount in had
        for counter in board[1]
        if counter[0] == kind
    ]


def amounts_of_kind(had, kind):
    return tuple([amount for held, amount in had if held == kind])


def amounts_within(board, kind, amount, steps):
    """Returns, for each kind, the ascending tuple of what one can have after at most so many counters."""
    if steps > SMALL_STEPS:
        raise TooMany(SMALL_STEPS)
    had = [(kind, amount)]
    for step in range(steps):
        after = after_any_counter(board, had)
        had = sorted(set(had + after))
    return tuple([amounts_of_kind(had, each) for each in range(board[0])])
