"""Functions made of others: opposite, turned, renamed, with a switch more or less, with rows left out."""

from signpoly.basics import on_in, power_of_two


def opposite(f):
    """Yes for no and no for yes."""
    return tuple([None if value is None else 1 - value for value in f])


def turned(f, some):
    """The function in which some switches stand otherwise."""
    flips = sum([power_of_two(k) for k in some])
    return tuple([f[row ^ flips] for row in range(len(f))])


def renamed_row(row, order):
    """The row in which switch order[k] stands as switch k does in this one."""
    return sum([on_in(row, k) * power_of_two(name) for k, name in enumerate(order)])


def renamed(f, order):
    """The function in which switch k does what switch order[k] did."""
    return tuple([f[renamed_row(row, order)] for row in range(len(f))])


def idle(f, k):
    """The function with one switch more, numbered k, on which nothing hangs."""
    low = power_of_two(k)
    return tuple([f[row // (low * 2) * low + row % low] for row in range(len(f) * 2)])


def held(f, k, v):
    """The function of the other switches where switch k stands as v says."""
    low = power_of_two(k)
    return tuple([f[(row // low * 2 + v) * low + row % low] for row in range(len(f) // 2)])


def left_out(f, rows):
    """The function in which these rows aren't told."""
    return tuple([None if row in rows else value for row, value in enumerate(f)])
