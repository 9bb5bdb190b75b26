"""Functions put into a function's switches."""

from signpoly.basics import multiplied, power_of_two
from signpoly.exacts import exact_degree, exact_of
from signpoly.functions import switches_of
from signpoly.reckoning import added, moved, often, product_of


def outer_row(parts, row):
    """The row in which switch i is on just where part i says yes."""
    told = 0
    rest = row
    for place, part in enumerate(parts):
        told = told + part[rest % len(part)] * power_of_two(place)
        rest = rest // len(part)
    return told


def put_in(outer, parts):
    """The full function of all parts' switches: outer's value where its switch i is on just where part i says yes."""
    rows = multiplied([len(part) for part in parts])
    return tuple([outer[outer_row(parts, row)] for row in range(rows)])


def exacts_of(parts):
    """For each part its exact polynomial of kind "odd", of the part's own among all parts' switches."""
    exacts = []
    ahead = 0
    for part in parts:
        exacts.append(moved(exact_of(part, "odd"), ahead))
        ahead = ahead + switches_of(part)
    return exacts


def put_term(term, number, parts, exacts):
    """The polynomial for one part of the outer polynomial: the term with its number."""
    # A part's exact polynomial has already been taken as many times as the part has rows; the others are yet to be.
    poly = ("odd", (((), number * multiplied([len(part) for k, part in enumerate(parts) if k not in term])),))
    for k in term:
        # By "odd" a switch that is on is -1, and a part's sign where it says yes is 1.
        poly = product_of(poly, often(exacts[k], -1))
    return poly


def put_poly(poly, parts):
    """The polynomial of kind "odd" with poly's value at the outer row, 2 ** (all parts' switches) times."""
    exacts = exacts_of(parts)
    told = ("odd", ())
    for term, number in poly[1]:
        told = added(told, put_term(term, number, parts, exacts))
    return told


def put_degree(poly, parts):
    """The greatest, over poly's terms, of its switches' parts' exact degrees together; 0 without parts."""
    degrees = [exact_degree(part) for part in parts]
    return max([sum([degrees[k] for k in term]) for term, number in poly[1]], default=0)
