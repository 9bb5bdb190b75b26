"""Polynomials: a kind, and numbers by rising terms."""

from signpoly.basics import LAST_SWITCH, is_whole, is_within
from signpoly.terms import value_of

KINDS = ("both", "odd")


def is_term(thing):
    """Whether anything is a rising tuple of switches from 0 to 5."""
    if not isinstance(thing, tuple):
        return False
    ahead = -1
    for k in thing:
        if not is_within(k, ahead + 1, LAST_SWITCH):
            return False
        ahead = k
    return True


def is_part(thing):
    """Whether anything is a term with a number that isn't 0."""
    if not isinstance(thing, tuple) or len(thing) != 2:
        return False
    return is_term(thing[0]) and is_whole(thing[1]) and thing[1] != 0


def are_parts(thing):
    """Whether anything is a tuple of parts whose terms rise."""
    if not isinstance(thing, tuple):
        return False
    ahead = None
    for part in thing:
        if not is_part(part) or (ahead is not None and part[0] <= ahead):
            return False
        ahead = part[0]
    return True


def is_poly(thing):
    """Whether anything is a polynomial of switches from 0 to 5."""
    if not isinstance(thing, tuple) or len(thing) != 2:
        return False
    return isinstance(thing[0], str) and thing[0] in KINDS and are_parts(thing[1])


def poly_from(kind, numbers):
    """The polynomial of the kind with these numbers, a dict by terms; some may be 0."""
    return (kind, tuple([(term, numbers[term]) for term in sorted(numbers) if numbers[term] != 0]))


def value_at(poly, row):
    """The polynomial's value at the row."""
    return sum([number * value_of(poly[0], term, row) for term, number in poly[1]])


def degree_of(poly):
    """The most switches in a term of the polynomial, 0 without parts."""
    return max([len(term) for term, number in poly[1]], default=0)


def size_of(poly):
    """The polynomial's numbers without their signs, together."""
    return sum([abs(number) for term, number in poly[1]])
