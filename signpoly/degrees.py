"""The least degrees of polynomials that tell a function, and of those that are nowhere wrong."""

from signpoly.functions import switches_of, told_rows
from signpoly.splits import solved, split_of
from signpoly.terms import terms_to


def least_degree(f, kind):
    """The least degree of a polynomial that tells the function, such a one, and a bar by all terms of fewer switches.

    The bar is None for degree 0.
    """
    n = switches_of(f)
    bar = None
    degree = 0
    answer = solved(f, kind, terms_to(n, degree))
    # By all terms of its switches each function is told, so this ends.
    while answer[0] == "bar":
        bar = answer[1]
        degree = degree + 1
        answer = solved(f, kind, terms_to(n, degree))
    return (degree, answer[1], bar)


def weak_degree(f, kind):
    """The least degree of a polynomial that is nowhere wrong and at some told row not 0, such a one, and weights.

    By the weights, above 0 at each told row, all terms of fewer switches have the weighted sum 0; None for degree 0.
    """
    n = switches_of(f)
    weights = None
    degree = 0
    split = split_of(f, kind, terms_to(n, degree))
    # By all terms some told row is above nought; without a told row there is no more to go through than these.
    while degree < n and all([split[1][row] > 0 for row in told_rows(f)]):
        weights = split[1]
        degree = degree + 1
        split = split_of(f, kind, terms_to(n, degree))
    return (degree, split[0], weights)
