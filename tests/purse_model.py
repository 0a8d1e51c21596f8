"""What purses, their texts and their shells must do, by the words of the document: plain, without the package."""

import re

from tests.reference import after_counter, is_int
from tests.samples import LIMIT

EDIT_NAMES = ("change", "earn", "put_up", "close")
NUMBER = "(0|[1-9][0-9]{0,12})"


def is_right_counter(value, kinds):
    if type(value) is not tuple or len(value) != 4 or not all(is_int(part) for part in value):
        return False
    source, to, give, get = value
    return source in range(kinds) and to in range(kinds) and source != to and give in range(1, 6) and get in range(1, 6)


class ModelPurse:
    """All states from the first one on, and the edits between them."""

    def __init__(self, board, kind, amount, most=None):
        self.states = [(board, kind, amount)]
        self.edits = []
        self.most = most

    def coins_after(self, name, value):
        board, kind, amount = self.states[-1]
        return amount + value if name == "earn" else after_counter(board[1][value], amount)

    def fault(self, name, value):
        """The name of the error of an edit, and its fields; None if there is none."""
        if len(self.edits) >= 60:
            return ("TooManyEdits", {})
        return self.value_fault(name, value) or self.coins_fault(name, value)

    def value_fault(self, name, value):
        (kinds, counters), kind, amount = self.states[-1]
        if name in ("change", "close") and not (is_int(value) and value in range(len(counters))):
            return ("NoCounter", {"value": value})
        if name == "change" and counters[value][0] != kind:
            return ("WrongKind", {"source": counters[value][0]})
        if name == "earn" and not (is_int(value) and 1 <= value <= LIMIT):
            return ("BadCoins", {"value": value})
        if name == "put_up" and not is_right_counter(value, kinds):
            return ("BadCounter", {"value": value})
        if name == "put_up" and len(counters) >= 8:
            return ("TooManyCounters", {})
        return None

    def coins_fault(self, name, value):
        if name not in ("change", "earn"):
            return None
        coins = self.coins_after(name, value)
        if coins > LIMIT:
            return ("TooMuch", {"coins": coins})
        if self.most is not None and coins > self.most:
            return ("OverCap", {"coins": coins})
        return None

    def do(self, name, value):
        """Does an edit that has no error, and returns the new version."""
        (kinds, counters), kind, amount = self.states[-1]
        if name in ("change", "earn"):
            amount = self.coins_after(name, value)
        if name == "change":
            kind = counters[value][1]
        if name == "put_up":
            counters = (*counters, value)
        if name == "close":
            counters = tuple(counter for index, counter in enumerate(counters) if index != value)
        self.states.append(((kinds, counters), kind, amount))
        self.edits.append((name, value))
        return len(self.edits)

    def undo(self):
        self.states.pop()
        self.edits.pop()
        return len(self.edits)

    def attempt(self, batch):
        """Does all edits and returns None; or none of them, and returns the index of the first one with an error."""
        for index, (name, value) in enumerate(batch):
            if self.fault(name, value):
                for repeat in range(index):
                    self.undo()
                return index
            self.do(name, value)
        return None

    def text(self):
        (kinds, counters), kind, amount = self.states[-1]
        coins = "%d coins of kind %d" % (amount, kind)
        return "%d kinds, %d counters, %s, %d edits" % (kinds, len(counters), coins, len(self.edits))


def view(purse):
    """All that a purse shows without a wish."""
    versions = range(len(purse) + 1)
    return (
        purse.board, purse.kind, purse.amount, purse.best, len(purse), str(purse), purse.edits(), purse.state(),
        [purse.state(version=version) for version in versions],
    )


def answers(purse, wishes):
    """What a purse says of each wish."""
    return [(purse.certificate(*wish), list(purse.walk(*wish))) for wish in wishes]


def smallest_shortest_route(board, kind, amount, target, wanted):
    """The route of the fewest counters that is enough, the smallest one of several, or None: by a search among all
    amounts.

    From this many coins on, every way of at most three counters is enough, so greater amounts need no search.
    """
    plenty = 125 * wanted
    layer = {(kind, min(amount, plenty)): ()}
    seen = set(layer)
    while layer:
        ends = [route for (end, coins), route in layer.items() if end == target and coins >= wanted]
        if ends:
            return min(ends)
        offers = {}
        for (end, coins), route in layer.items():
            for index, counter in enumerate(board[1]):
                if counter[0] == end:
                    after = (counter[1], min(after_counter(counter, coins), plenty))
                    offers[after] = min(offers.get(after, route + (index,)), route + (index,))
        layer = {after: route for after, route in offers.items() if after not in seen}
        seen.update(layer)
    return None


def stations(board, amount, route):
    """The tuples that a walk along a route shows."""
    shown = []
    for index in route:
        amount = after_counter(board[1][index], amount)
        shown.append((index, board[1][index][1], amount))
    return shown


def text_of(board, kind, amount):
    counters = ["%d>%d %d:%d" % counter for counter in board[1]]
    return " ".join(["%d kinds; %d: %d;" % (board[0], kind, amount)] + counters)


def text_fault(value):
    """"whole", the index of the word for which a text is refused, or None for the text of a purse."""
    if type(value) is not str:
        return "whole"
    words = value.split(" ")
    if not re.fullmatch("[1-4]", words[0]):
        return 0
    kinds = int(words[0])
    if words[1:2] != ["kinds;"]:
        return 1
    if not re.fullmatch("[0-%d]:" % (kinds - 1), "".join(words[2:3])):
        return 2
    if not re.fullmatch("(0|[1-9][0-9]{0,11}|1000000000000);", "".join(words[3:4])):
        return 3
    for index in range(4, len(words), 2):
        pair = " ".join(words[index:index + 2])
        if index >= 20 or not is_counter_text(pair, kinds):
            return index
    return None


def is_counter_text(text, kinds):
    shape = "([0-%d])>([0-%d]) [1-5]:[1-5]" % (kinds - 1, kinds - 1)
    found = re.fullmatch(shape, text)
    return bool(found) and found[1] != found[2]


def call_of_line(line, kinds):
    """The method, or "text" or "best", and the values that a line of a shell stands for; None if it is unknown."""
    if type(line) is not str:
        return None
    if line in ("undo", "best"):
        return (line,)
    if line == "purse":
        return ("text",)
    if found := re.fullmatch("(change|earn|close) " + NUMBER, line):
        return (found[1], int(found[2]))
    if found := re.fullmatch("can " + NUMBER + " " + NUMBER, line):
        return ("certificate", int(found[1]), int(found[2]))
    if line.startswith("put up ") and is_counter_text(line[7:], kinds):
        return ("put_up", tuple(int(digit) for digit in re.findall("[0-9]", line)))
    return None


def answer_to_line(purse, line):
    """What a shell must answer, found by calling the method on the purse."""
    call = call_of_line(line, purse.board[0])
    if call is None:
        return "unknown command"
    if call == ("text",):
        return text_of(purse.board, purse.kind, purse.amount)
    if call == ("best",):
        return " ".join("endless" if number is None else "%d" % number for number in purse.best)
    try:
        result = getattr(purse, call[0])(*call[1:])
    except (ValueError, LookupError) as error:
        return "error " + type(error).__name__
    return result[0] if call[0] == "certificate" else "ok %d" % result
