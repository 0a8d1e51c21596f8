"""The text of a purse, and its parts, which commands share."""

from coincounters.boards import is_counter, is_kind
from coincounters.bounds import MAX_COUNTERS, MAX_KINDS
from coincounters.checks import is_amount, is_between
from coincounters.errors import BadText

# LIMIT has so many digits, and Python refuses to read numbers of some thousand digits.
MOST_DIGITS = 13

FIRST_COUNTER_WORD = 4


def number_in(word):
    """Returns the number of at most MOST_DIGITS digits that the word is, or None."""
    if len(word) > MOST_DIGITS or not word.isascii() or not word.isdigit():
        return None
    if word[0] == "0" and word != "0":
        return None
    return int(word)


def number_before(word, sign):
    """Returns the number before the one sign with which the word ends, or None."""
    return number_in(word[:-1]) if word.endswith(sign) else None


def counter_text(counter):
    source, to, give, get = counter
    return f"{source}>{to} {give}:{get}"


def counter_in(words, kinds):
    """Returns the counter for so many kinds whose text these words are, or None."""
    if len(words) != 2:
        return None
    source, arrow, to = words[0].partition(">")
    give, colon, get = words[1].partition(":")
    # Where a sign is missing, what comes behind it is empty, and so not a number.
    counter = (number_in(source), number_in(to), number_in(give), number_in(get))
    return counter if is_counter(counter, kinds) else None


def purse_text(board, kind, amount):
    """Returns the text of a purse."""
    kinds, counters = board
    words = [f"{kinds} kinds; {kind}: {amount};"] + [counter_text(counter) for counter in counters]
    return " ".join(words)


def parsed_start(words):
    """Returns the number of kinds, the kind and the amount in the first words."""
    kinds = number_in(words[0])
    if not is_between(kinds, 1, MAX_KINDS):
        raise BadText(0)
    if len(words) < 2 or words[1] != "kinds;":
        raise BadText(1)
    kind = number_before(words[2], ":") if len(words) > 2 else None
    if not is_kind(kind, kinds):
        raise BadText(2)
    amount = number_before(words[3], ";") if len(words) > 3 else None
    if not is_amount(amount):
        raise BadText(3)
    return (kinds, kind, amount)


def parsed_counters(words, kinds):
    """Returns the tuple of the counters for so many kinds in the words behind the first ones."""
    counters = ()
    for index in range(FIRST_COUNTER_WORD, len(words), 2):
        counter = counter_in(words[index:index + 2], kinds)
        if counter is None or len(counters) == MAX_COUNTERS:
            raise BadText(index)
        counters += (counter,)
    return counters


def parse_purse(value):
    """Accepts any value. Returns the tuple (board, kind, amount) whose text it is."""
    if not isinstance(value, str):
        raise BadText(None)
    words = value.split(" ")
    kinds, kind, amount = parsed_start(words)
    return ((kinds, parsed_counters(words, kinds)), kind, amount)
