"""Margins: how far from nought a polynomial stays at the told rows, for its size, and the widest of them."""

from signpoly.basics import lowered
from signpoly.functions import sign_at, told_rows
from signpoly.mosts import most_of
from signpoly.polys import size_of, value_at
from signpoly.signs import signed_values
from signpoly.splits import both_ways, poly_by, weights_by


def margin_of(f, poly):
    """The least of signs times values at told rows, parted by the polynomial's size, in lowest terms."""
    return lowered((min([sign_at(f, row) * value_at(poly, row) for row in told_rows(f)]), size_of(poly)))


def widest(f, kind, terms):
    """The greatest margin of the polynomials of the terms, one with this margin, and weights that show it.

    The margin is (0, 1), and the polynomial None, where no margin is above 0.
    """
    values = signed_values(f, kind, terms)
    # The last amount is the margin: at each told row no more than the value, of numbers of size 1 at most.
    rows = [both_ways([-value for value in line]) + [1] for line in values] + [[1] * (2 * len(terms)) + [0]]
    most = most_of(tuple([tuple(row) for row in rows]), (0,) * len(values) + (1,), (0,) * (2 * len(terms)) + (1,))
    value = lowered((most[2][-1], most[1]))
    weights = lowered(weights_by(f, most[3][:-1]))
    if value[0] == 0:
        return (value, None, weights)
    return (value, poly_by(kind, terms, most[2]), weights)
