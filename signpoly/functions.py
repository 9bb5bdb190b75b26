"""Functions: a value, 1, 0 or None, for each row of some switches."""

from signpoly.basics import is_within

LENGTHS = (1, 2, 4, 8, 16, 32, 64)


def is_function(thing):
    """Whether anything is a function of at most six switches."""
    if not isinstance(thing, tuple) or len(thing) not in LENGTHS:
        return False
    return all([value is None or is_within(value, 0, 1) for value in thing])


def switches_of(f):
    """How many switches the function has."""
    many = 0
    rows = 1
    while rows < len(f):
        rows = rows * 2
        many = many + 1
    return many


def told_rows(f):
    """The rows of the function that are told, rising."""
    return tuple([row for row, value in enumerate(f) if value is not None])


def sign_at(f, row):
    """The sign of a told row: 1 for yes, -1 for no."""
    return 1 if f[row] == 1 else -1
