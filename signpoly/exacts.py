"""The exact polynomials of full functions: those whose values are the signs."""

from signpoly.functions import switches_of, told_rows
from signpoly.polys import degree_of, poly_from
from signpoly.reckoning import other_kind, parted
from signpoly.signs import signed_value
from signpoly.terms import terms_to


def sum_by(f, kind, term):
    """The signs of the told rows times the term's values, together."""
    return sum([signed_value(f, kind, term, row) for row in told_rows(f)])


def exact_by_odd(f):
    """The polynomial of kind "odd" whose value at each row is 2 ** n times its sign."""
    n = switches_of(f)
    numbers = {}
    for term in terms_to(n, n):
        numbers[term] = sum_by(f, "odd", term)
    return poly_from("odd", numbers)


def exact_of(f, kind):
    """The polynomial of the kind whose value at each row of a full function is its sign, by "odd" 2 ** n times."""
    by_odd = exact_by_odd(f)
    if kind == "odd":
        return by_odd
    # The numbers by "both" are sums of signs with whole numbers, so 2 ** n, the length of f, parts them.
    return parted(other_kind(by_odd), len(f))


def exact_degree(f):
    """The degree of the exact polynomials of a full function, by both kinds the same."""
    return degree_of(exact_by_odd(f))
