"""Tests of single values, shared by the files that accept any value."""

from coincounters.bounds import LIMIT


def is_number(value):
    # Python counts True and False as ints; the package does not.
    return isinstance(value, int) and not isinstance(value, bool)


def is_between(value, least, most):
    return is_number(value) and least <= value <= most


def is_amount(value):
    return is_between(value, 0, LIMIT)
