"""Splits: for some terms, the rows that a polynomial tells, and weights on those where each one stands on nought."""

from signpoly.basics import lowered
from signpoly.functions import told_rows
from signpoly.mosts import most_of
from signpoly.polys import poly_from
from signpoly.reckoning import shrunk
from signpoly.signs import signed_values


def one_at(place, many):
    """So many numbers, 1 in the place, else 0."""
    return [1 if k == place else 0 for k in range(many)]


def both_ways(numbers):
    """The numbers, then each below nought for above, above for below."""
    return list(numbers) + [-number for number in numbers]


def poly_by(kind, terms, amounts):
    """The polynomial whose numbers are the amounts of the terms, less those behind them, as small as they can be."""
    numbers = {}
    for place, term in enumerate(terms):
        numbers[term] = amounts[place] - amounts[len(terms) + place]
    return shrunk(poly_from(kind, numbers))


def weights_by(f, numbers):
    """The weights of the function that the told rows have in their order."""
    weights = [0] * len(f)
    for row, number in zip(told_rows(f), numbers):
        weights[row] = number
    return tuple(weights)


def split_of(f, kind, terms):
    """A polynomial of the terms that is nowhere wrong, and weights just at those told rows where its value is 0."""
    values = signed_values(f, kind, terms)
    many = len(values)
    if many == 0:
        return ((kind, ()), weights_by(f, ()))
    # Each told row earns what the value comes to there, but at most 1: so the most is got where each row that can
    # be above nought is, and the prices of the others, which are above nought, are the weights.
    earned = [both_ways([-value for value in line]) + one_at(place, many) for place, line in enumerate(values)]
    limits = [[0] * (2 * len(terms)) + one_at(place, many) for place in range(many)]
    most = most_of(tuple([tuple(row) for row in earned + limits]), (0,) * many + (1,) * many,
                   (0,) * (2 * len(terms)) + (1,) * many)
    return (poly_by(kind, terms, most[2]), lowered(weights_by(f, most[3][:many])))


def rows_above(weights):
    """The rows of weight above 0, rising."""
    return tuple([row for row, weight in enumerate(weights) if weight > 0])


def stands_on(f, kind, terms):
    """The rows on which each polynomial of the terms that is nowhere wrong stands on nought, rising."""
    return rows_above(split_of(f, kind, terms)[1])


def solved(f, kind, terms):
    """A polynomial of the terms that tells the function, or the weights that show that there is none."""
    split = split_of(f, kind, terms)
    if any(split[1]):
        return ("bar", split[1])
    return ("poly", split[0])
