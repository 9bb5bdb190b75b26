"""Weights over a function's rows, and the lookers for splits and bars."""

from signpoly.basics import are_amounts
from signpoly.functions import sign_at, switches_of, told_rows
from signpoly.polys import is_poly, value_at
from signpoly.signs import signed_value
from signpoly.terms import terms_to


def weighted(f, kind, term, weights):
    """The weighted sum of the term: weights times signs times its values, together."""
    return sum([weights[row] * signed_value(f, kind, term, row) for row in told_rows(f)])


def are_weights(f, thing):
    """Whether anything is weights of the function: whole numbers from 0 on, 0 where the row isn't told."""
    if not are_amounts(thing, len(f)):
        return False
    return all([weight == 0 for value, weight in zip(f, thing) if value is None])


def are_balanced(f, kind, terms, weights):
    """Whether each of the terms has the weighted sum 0."""
    return all([weighted(f, kind, term, weights) == 0 for term in terms])


def is_poly_by(kind, terms, thing):
    """Whether anything is a polynomial of the kind and of these terms alone."""
    return is_poly(thing) and thing[0] == kind and all([term in terms for term, number in thing[1]])


def parts_at(f, poly, weights, row):
    """Whether at the told row the value isn't of the other sign, and just one of value and weight isn't 0."""
    value = sign_at(f, row) * value_at(poly, row)
    return value >= 0 and (value == 0) != (weights[row] == 0)


def shows_split(f, kind, terms, thing):
    """Whether anything is a split of the function by the kind and the terms."""
    if not isinstance(thing, tuple) or len(thing) != 2:
        return False
    if not is_poly_by(kind, terms, thing[0]) or not are_weights(f, thing[1]):
        return False
    if not are_balanced(f, kind, terms, thing[1]):
        return False
    return all([parts_at(f, thing[0], thing[1], row) for row in told_rows(f)])


def is_bar(f, kind, terms, thing):
    """Whether anything is weights, not all 0, by which no polynomial of these terms tells the function."""
    return are_weights(f, thing) and any(thing) and are_balanced(f, kind, terms, thing)


def barred_to(f, weights):
    """The least size of a term whose weighted sum isn't 0, by both kinds the same, of weights that aren't all 0."""
    n = switches_of(f)
    return min([len(term) for term in terms_to(n, n) if weighted(f, "odd", term, weights) != 0])
