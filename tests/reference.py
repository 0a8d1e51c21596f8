"""What the functions must return, found by trying: slow, plain, and without the package."""

ENDLESS = 10 ** 60

# No loop of at most four counters has a growth start above this.
LATEST_GROWTH = 1270


def after_counter(counter, amount):
    source, to, give, get = counter
    return (amount - amount % give) // give * get


def after_route(board, kind, amount, route):
    """(kind, amount) after a route that is right."""
    for index in route:
        assert board[1][index][0] == kind
        kind, amount = board[1][index][1], after_counter(board[1][index], amount)
    return kind, amount


def is_int(value):
    return type(value) is int


def route_fault(board, kind, value, most=200):
    """"whole" or the index of the first wrong item; None for a route."""
    if type(value) is not tuple or len(value) > most:
        return "whole"
    for at, item in enumerate(value):
        if not is_int(item) or item not in range(len(board[1])) or board[1][item][0] != kind:
            return at
        kind = board[1][item][1]
    return None


def all_routes(board, kind, steps):
    """All routes of at most so many counters."""
    routes = [()]
    ends = [((), kind)]
    for step in range(steps):
        ends = [(route + (index,), counter[1]) for route, end in ends
                for index, counter in enumerate(board[1]) if counter[0] == end]
        routes += [route for route, end in ends]
    return routes


def ends_by_routes(board, kind, amount, steps):
    """The set of (kind, amount) after all routes of at most so many counters."""
    return {after_route(board, kind, amount, route) for route in all_routes(board, kind, steps)}


def best_by_trying(board, kind, amount):
    """The greatest numbers, found counter by counter.

    If the number of a kind has an end, it comes, by at most three counters, from the start or from an amount that
    does not grow in a loop that could grow. So whatever is above this bound has no end.
    """
    bound = 125 * max(amount, LATEST_GROWTH)
    numbers = [0] * board[0]
    numbers[kind] = amount
    moved = True
    while moved:
        moved = False
        for counter in board[1]:
            source, to = counter[:2]
            given = ENDLESS if numbers[source] == ENDLESS else after_counter(counter, numbers[source])
            given = ENDLESS if given > bound else given
            if given > numbers[to]:
                numbers[to] = given
                moved = True
    return tuple(None if number == ENDLESS else number for number in numbers)


def kinds_from(board, kind):
    """The kinds to which a route leads."""
    return {end for end, amount in ends_by_routes(board, kind, 0, 3)}


def loops_by_listing(board, kind):
    """All loops at the kind that come to no kind twice before their end."""
    loops = []
    for route in all_routes(board, kind, 4):
        ends = [board[1][index][1] for index in route]
        if route and ends[-1] == kind and len(set(ends)) == len(ends):
            loops.append(route)
    return tuple(sorted(loops))


def fate_by_turning(board, loop, amount):
    """The fate, found by turning until nothing moves or no fixed amount can be above."""
    kind = board[1][loop[0]][0]
    before, now = None, amount
    while now != before:
        before, now = now, after_route(board, kind, now, loop)[1]
        if now > before >= LATEST_GROWTH:
            return ("grows",)
    if now == amount:
        return ("stays", amount)
    return ("falls", now) if now < amount else ("rises", now)


def is_right_route(board, kind, amount, target, wanted, route):
    if route_fault(board, kind, route) is not None:
        return False
    end, coins = after_route(board, kind, amount, route)
    return end == target and coins >= wanted


def is_right_growth(board, kind, amount, target, route, loop, way):
    if route_fault(board, kind, route) is not None:
        return False
    end, coins = after_route(board, kind, amount, route)
    if route_fault(board, end, loop, 4) is not None or loop not in loops_by_listing(board, end):
        return False
    if fate_by_turning(board, loop, coins) != ("grows",) or route_fault(board, end, way, 4) is not None:
        return False
    return after_route(board, end, 0, way)[0] == target


def is_right_ceiling(board, kind, amount, target, wanted, ceiling):
    if type(ceiling) is not tuple or len(ceiling) != board[0]:
        return False
    if not all(item is None or is_int(item) and item >= 0 for item in ceiling):
        return False
    tops = [ENDLESS if item is None else item for item in ceiling]
    for counter in board[1]:
        source, to = counter[:2]
        if tops[to] < (ENDLESS if tops[source] == ENDLESS else after_counter(counter, tops[source])):
            return False
    return tops[kind] >= amount and tops[target] < wanted


def is_right_certificate(board, kind, amount, target, wanted, value):
    if type(value) is not tuple or not value or type(value[0]) is not str:
        return False
    if value[0] == "growth" and len(value) == 4:
        return is_right_growth(board, kind, amount, target, *value[1:])
    if value[0] == "route" and len(value) == 2:
        return is_right_route(board, kind, amount, target, wanted, value[1])
    if value[0] == "ceiling" and len(value) == 2:
        return is_right_ceiling(board, kind, amount, target, wanted, value[1])
    return False
