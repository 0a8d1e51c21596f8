"""Greatest numbers of coins, least amounts that are enough, and certificates for both."""

from coincounters.boards import changed, without_counter
from coincounters.bounds import LIMIT, MAX_KINDS, MAX_ROUTE
from coincounters.checks import is_number
from coincounters.errors import TooLong
from coincounters.loops import growth_start, is_loop, loops_at
from coincounters.routes import least_before, run, run_if_route


def start_numbers(board, kind, amount):
    """Returns the tuple with the amount for the kind, and 0 for all others."""
    return tuple([amount if each == kind else 0 for each in range(board[0])])


def after_one_more(board, numbers):
    """Returns the greatest numbers after at most one more counter; None stands for numbers without end."""
    after = list(numbers)
    for counter in board[1]:
        source, to = counter[:2]
        if numbers[source] is None:
            after[to] = None
        elif after[to] is not None:
            after[to] = max(after[to], changed(counter, numbers[source]))
    return tuple(after)


def best_within(board, kind, amount, steps):
    """Returns the tuple of the greatest numbers for routes of at most so many counters."""
    numbers = start_numbers(board, kind, amount)
    for step in range(steps):
        numbers = after_one_more(board, numbers)
    return numbers


def growing_loops(board, kind):
    """Returns pairs of the growth start and the loop, for the loops of loops_at that have one."""
    pairs = [(growth_start(board, loop), loop) for loop in loops_at(board, kind)]
    return [(start, loop) for start, loop in pairs if start is not None]


def least_growth(board, kind):
    """Returns the least growth start of the loops at the kind, or None."""
    return min([start for start, loop in growing_loops(board, kind)], default=None)


def growth_starts(board):
    """Returns what least_growth returns for each kind."""
    return tuple([least_growth(board, kind) for kind in range(board[0])])


def is_enough(amount, need):
    """Returns whether the amount is at least what is needed; None stands for what no amount is enough for."""
    return need is not None and amount >= need


def with_growth(numbers, starts):
    """Returns the numbers with None in the place of those that grow in a loop."""
    return tuple([
        None if number is None or is_enough(number, start) else number
        for number, start in zip(numbers, starts)
    ])


def best_from(board, kind, amount):
    """Returns the tuple of the greatest numbers of all kinds."""
    starts = growth_starts(board)
    before = None
    numbers = start_numbers(board, kind, amount)
    # This ends: only loops that can grow give more than was put in, so a number without end comes to a growth start.
    while numbers != before:
        before = numbers
        numbers = after_one_more(board, with_growth(numbers, starts))
    return numbers


def kinds_leading_to(board, target):
    """Returns a list that says for each kind whether a route leads from it to target."""
    kinds, counters = board
    leads = [kind == target for kind in range(kinds)]
    for step in range(kinds):
        for counter in counters:
            source, to = counter[:2]
            leads[source] = leads[source] or leads[to]
    return leads


def growth_needs(board, target):
    """Returns, for each kind, the least amount that grows there and from which a route leads to target, or None."""
    leads = kinds_leading_to(board, target)
    return tuple([start if lead else None for start, lead in zip(growth_starts(board), leads)])


def lesser_need(one, other):
    """Returns the lesser one of two needs, where None is greater than all numbers."""
    if one is None:
        return other
    return one if other is None else min(one, other)


def target_needs(board, target, wanted):
    """Returns the needs with wanted for target, and None for all other kinds."""
    return tuple([wanted if kind == target else None for kind in range(board[0])])


def one_more_before(board, needs):
    """Returns, for each kind, the least amount that fulfils a need after at most one counter, or None."""
    before = list(needs)
    for counter in board[1]:
        source, to = counter[:2]
        if needs[to] is not None:
            before[source] = lesser_need(before[source], least_before(counter, needs[to]))
    return tuple(before)


def least_needed(board, kind, target, wanted):
    """Returns the least amount of the kind that is enough for wanted coins of target, or None."""
    wishes = target_needs(board, target, wanted)
    # What grows is enough for every wish; without this, great wishes would take many rounds.
    growths = growth_needs(board, target)
    needs = tuple([lesser_need(wish, growth) for wish, growth in zip(wishes, growths)])
    after = None
    while needs != after:
        after = needs
        needs = one_more_before(board, needs)
    return needs[kind]


def counter_towards(board, kind, amount, needs):
    """Returns the first counter for this kind after which there is enough, where there is one."""
    for index, counter in enumerate(board[1]):
        if counter[0] == kind and is_enough(changed(counter, amount), needs[counter[1]]):
            return index
    return None


def route_through(board, kind, amount, rows):
    """Returns the route that fulfils the needs of one row after another."""
    route = ()
    for needs in rows:
        index = counter_towards(board, kind, amount, needs)
        counter = board[1][index]
        route += (index,)
        kind = counter[1]
        amount = changed(counter, amount)
    return route


def shortest_route(board, kind, amount, needs):
    """Returns the route of the fewest counters after which there is enough, the smallest one of several.

    Raises TooLong if there is none of at most MAX_ROUTE counters.
    """
    rows = [needs]
    while not is_enough(amount, rows[-1][kind]):
        if len(rows) > MAX_ROUTE:
            raise TooLong(MAX_ROUTE)
        rows.append(one_more_before(board, rows[-1]))
    rows.reverse()
    return route_through(board, kind, amount, rows[1:])


def route_to(board, kind, amount, target, wanted):
    """Returns the shortest route that fulfils the wish, or () if none of at most MAX_ROUTE counters does."""
    try:
        return shortest_route(board, kind, amount, target_needs(board, target, wanted))
    except TooLong:
        return ()


def first_growing_loop(board, kind, amount):
    """Returns the first loop at the kind in which the amount grows, where there is one."""
    for start, loop in growing_loops(board, kind):
        if amount >= start:
            return loop
    return None


def growth_certificate(board, kind, amount, target):
    """Returns a certificate for numbers of target without end."""
    route = shortest_route(board, kind, amount, growth_needs(board, target))
    end, coins = run(board, kind, amount, route)
    loop = first_growing_loop(board, end, coins)
    # LIMIT coins leave one at the end of every way that comes to no kind twice.
    way = shortest_route(board, end, LIMIT, target_needs(board, target, 1))
    return ("growth", route, loop, way)


def find_certificate(board, kind, amount, target, wanted):
    """Returns a certificate for the start and the wish."""
    numbers = best_from(board, kind, amount)
    if numbers[target] is None:
        return growth_certificate(board, kind, amount, target)
    if numbers[target] >= wanted:
        return ("route", shortest_route(board, kind, amount, target_needs(board, target, wanted)))
    return ("ceiling", numbers)


def route_holds(board, kind, amount, target, wanted, route):
    """Accepts any value as the route. Returns whether it is one that fulfils the wish."""
    end = run_if_route(board, kind, amount, route)
    return end is not None and end[0] == target and end[1] >= wanted


def grows_at(board, kind, amount, loop):
    """Accepts any value as the loop. Returns whether it is one of loops_at in which the amount grows."""
    # A loop is tested first, as True and False in a tuple would be equal to 1 and 0.
    if not is_loop(board, loop) or loop not in loops_at(board, kind):
        return False
    return is_enough(amount, growth_start(board, loop))


def way_holds(board, kind, target, way):
    """Accepts any value as the way. Returns whether it is a short route from the kind to target."""
    end = run_if_route(board, kind, 0, way)
    return end is not None and end[0] == target and len(way) <= MAX_KINDS


def growth_holds(board, kind, amount, target, route, loop, way):
    """Accepts any values as the last three. Returns whether they show that target has no greatest number."""
    end = run_if_route(board, kind, amount, route)
    if end is None:
        return False
    return grows_at(board, end[0], end[1], loop) and way_holds(board, end[0], target, way)


def is_ceiling_item(value):
    return value is None or is_number(value) and value >= 0


def is_ceiling(board, kind, amount, value):
    """Accepts any value as the last argument. Returns whether it is a ceiling for the start."""
    if not isinstance(value, tuple) or len(value) != board[0]:
        return False
    if not all([is_ceiling_item(item) for item in value]):
        return False
    if value[kind] is not None and value[kind] < amount:
        return False
    return after_one_more(board, value) == value


def ceiling_holds(board, kind, amount, target, wanted, ceiling):
    """Accepts any value as the ceiling. Returns whether it is one that stays below the wish."""
    if not is_ceiling(board, kind, amount, ceiling):
        return False
    return ceiling[target] is not None and ceiling[target] < wanted


def certificate_holds(board, kind, amount, target, wanted, value):
    """Accepts any value as the last argument. Returns whether it is a certificate for the start and the wish."""
    if not isinstance(value, tuple) or len(value) not in (2, 4):
        return False
    if value[0] == "route" and len(value) == 2:
        return route_holds(board, kind, amount, target, wanted, value[1])
    if value[0] == "growth" and len(value) == 4:
        return growth_holds(board, kind, amount, target, value[1], value[2], value[3])
    if value[0] == "ceiling" and len(value) == 2:
        return ceiling_holds(board, kind, amount, target, wanted, value[1])
    return False


def needed_counters(board, kind, amount):
    """Returns the ascending tuple of the numbers of the counters without which some greatest number is less."""
    numbers = best_from(board, kind, amount)
    # Without a counter no greatest number is greater, so one that differs is less.
    return tuple([
        index for index in range(len(board[1]))
        if best_from(without_counter(board, index), kind, amount) != numbers
    ])
