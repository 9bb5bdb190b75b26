"""Polynomials made of others: sums, products, multiples, with other switches, of the other kind."""

from signpoly.basics import greatest_part, power_of_two
from signpoly.polys import degree_of, poly_from


def gathered(kind, parts):
    """The polynomial of parts in any order, in which a term may stand more than once."""
    numbers = {}
    for term, number in parts:
        numbers[term] = numbers.get(term, 0) + number
    return poly_from(kind, numbers)


def added(one, other):
    """The sum of two polynomials of one kind."""
    return gathered(one[0], one[1] + other[1])


def joined(kind, one, other):
    """The term whose value at each row is the product of those of both."""
    if kind == "both":
        return tuple(sorted(set(one) | set(other)))
    return tuple(sorted(set(one) ^ set(other)))


def product_of(one, other):
    """The product of two polynomials of one kind."""
    kind = one[0]
    parts = []
    for term, number in one[1]:
        parts.extend([(joined(kind, term, second), number * times) for second, times in other[1]])
    return gathered(kind, parts)


def often(poly, number):
    """The polynomial times the number."""
    return gathered(poly[0], [(term, number * times) for term, times in poly[1]])


def parted(poly, number):
    """The polynomial with each of its numbers parted by one that parts them all."""
    return (poly[0], tuple([(term, times // number) for term, times in poly[1]]))


def shrunk(poly):
    """The polynomial with its numbers parted by the greatest whole number that parts all."""
    return parted(poly, greatest_part([number for term, number in poly[1]]))


def moved(poly, by):
    """The polynomial in which switch k is called k + by."""
    return (poly[0], tuple([(tuple([k + by for k in term]), number) for term, number in poly[1]]))


def spread(term, number, step):
    """The parts of number times the product, over the term's switches, of one and step times the switch."""
    parts = [((), number)]
    for k in term:
        parts = parts + [(within + (k,), times * step) for within, times in parts]
    return parts


def odd_from_both(poly):
    """Of kind "odd", with the value times 2 ** degree_of(poly)."""
    degree = degree_of(poly)
    parts = []
    for term, number in poly[1]:
        # By "both" a switch is half of one less its value by "odd"; the halves come out of the degree.
        parts.extend(spread(term, number * power_of_two(degree - len(term)), -1))
    return gathered("odd", parts)


def both_from_odd(poly):
    """Of kind "both", with the same value."""
    parts = []
    for term, number in poly[1]:
        # By "odd" a switch is one less twice its value by "both".
        parts.extend(spread(term, number, -2))
    return gathered("both", parts)


def other_kind(poly):
    """The polynomial of the other kind, from "both" with the value times 2 ** degree_of(poly)."""
    if poly[0] == "both":
        return odd_from_both(poly)
    return both_from_odd(poly)
