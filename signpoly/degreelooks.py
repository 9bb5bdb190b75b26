"""The lookers for the least degrees."""

from signpoly.basics import is_within
from signpoly.functions import sign_at, switches_of, told_rows
from signpoly.polys import value_at
from signpoly.signs import tells
from signpoly.splitlooks import are_balanced, are_weights, is_bar, is_poly_by
from signpoly.terms import terms_to


def is_weak(f, poly):
    """Whether the polynomial's value is at no told row of the other sign, and at some told row not 0."""
    values = [sign_at(f, row) * value_at(poly, row) for row in told_rows(f)]
    return all([value >= 0 for value in values]) and any(values)


def are_everywhere(f, kind, terms, thing):
    """Whether anything is weights, above 0 at each told row, by which the terms have the weighted sum 0."""
    if not are_weights(f, thing) or not all([thing[row] > 0 for row in told_rows(f)]):
        return False
    return are_balanced(f, kind, terms, thing)


def fewer_terms(f, degree):
    """All terms of the function's switches of fewer switches than the degree, which is above 0."""
    return terms_to(switches_of(f), degree - 1)


def has_degree(f, kind, thing):
    """Whether anything is three: a degree, a polynomial of the kind of at most this degree, and anything."""
    if not isinstance(thing, tuple) or len(thing) != 3 or not is_within(thing[0], 0, switches_of(f)):
        return False
    return is_poly_by(kind, terms_to(switches_of(f), thing[0]), thing[1])


def shows_degree(f, kind, thing):
    """Whether anything is the least degree, a polynomial of it that tells the function, and a bar, None for 0."""
    if not has_degree(f, kind, thing) or not tells(thing[1], f):
        return False
    if thing[0] == 0:
        return thing[2] is None
    # By the bar no polynomial of lower degree tells the function, so this one isn't of lower degree.
    return is_bar(f, kind, fewer_terms(f, thing[0]), thing[2])


def shows_weak(f, kind, thing):
    """Whether anything is the weak degree, a polynomial of it that is nowhere wrong, and weights, None for 0."""
    if not has_degree(f, kind, thing) or not is_weak(f, thing[1]):
        return False
    if thing[0] == 0:
        return thing[2] is None
    return are_everywhere(f, kind, fewer_terms(f, thing[0]), thing[2])
