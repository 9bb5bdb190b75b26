"""How many functions are told by polynomials of some terms."""

from signpoly.basics import power_of_two
from signpoly.splits import solved


def are_first_values(values, rows, kind, terms):
    """Whether a polynomial of the terms tells the function of so many rows of which just these first ones are told."""
    return solved(values + (None,) * (rows - len(values)), kind, terms)[0] == "poly"


def listed(n, kind, terms):
    """The full functions of n switches that are told by a polynomial of the terms, rising."""
    rows = power_of_two(n)
    found = [()]
    # What isn't told by its first rows alone isn't told with more of them, so it isn't gone on with.
    for row in range(rows):
        longer = []
        for values in found:
            both = (values + (0,), values + (1,))
            longer.extend([more for more in both if are_first_values(more, rows, kind, terms)])
        found = longer
    return tuple(found)


def how_many(n, kind, terms):
    """How many full functions of n switches are told by a polynomial of the terms."""
    return len(listed(n, kind, terms))
