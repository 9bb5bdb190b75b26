"""The least size of a polynomial of whole numbers that tells a function, with a tree of cases that shows it."""

from signpoly.basics import with_bound
from signpoly.functions import told_rows
from signpoly.mosts import most_of
from signpoly.polys import poly_from
from signpoly.signs import signed_values
from signpoly.splits import one_at, solved, weights_by


def bounded(bounds):
    """The places that have a bound, rising."""
    return [place for place, bound in enumerate(bounds) if bound is not None]


def weighed(values, lows, highs):
    """The weights, lows and highs that ask for the greatest size, and the numbers of the least size by their prices.

    Where they are beyond there are no numbers within these bounds that tell the function. values are those of
    signed_values, lows and highs a bound or None for each term.
    """
    many = len(lows)
    columns = values + [one_at(place, many) for place in bounded(lows)]
    columns = columns + [[-number for number in one_at(place, many)] for place in bounded(highs)]
    gains = [1] * len(values) + [lows[place] for place in bounded(lows)] + [-highs[place] for place in bounded(highs)]
    rows = []
    for sign in (1, -1):
        rows.extend([tuple([sign * column[place] for column in columns]) for place in range(many)])
    return most_of(tuple(rows), (1,) * (2 * many), tuple(gains))


def placed(bounds, numbers):
    """The numbers at the places that have a bound, in their order, 0 at the others."""
    told = [0] * len(bounds)
    for place, number in zip(bounded(bounds), numbers):
        told[place] = number
    return tuple(told)


def leaf_of(f, lows, highs, amounts, part):
    """The leaf whose weights, lows and highs these amounts are."""
    rows = len(told_rows(f))
    ahead = rows + len(bounded(lows))
    return ("leaf", weights_by(f, amounts[:rows]), placed(lows, amounts[rows:ahead]), placed(highs, amounts[ahead:]),
            part)


def broken_place(numbers, part):
    """The first place of a number that part doesn't part, None where it parts all."""
    for place, number in enumerate(numbers):
        if number % part != 0:
            return place
    return None


def searched(f, values, most, lows, highs):
    """Whole numbers within the bounds, of at most this size, that tell the function; or a tree that shows none."""
    told = weighed(values, lows, highs)
    if told[0] == "beyond":
        return ("tree", leaf_of(f, lows, highs, told[1], 0))
    part = told[1]
    prices = told[3]
    if sum(prices) > part * most:
        return ("tree", leaf_of(f, lows, highs, told[2], part))
    numbers = [prices[place] - prices[len(lows) + place] for place in range(len(lows))]
    place = broken_place(numbers, part)
    if place is None:
        return ("numbers", [number // part for number in numbers])
    cut = numbers[place] // part
    one = searched(f, values, most, lows, with_bound(highs, place, cut))
    if one[0] == "numbers":
        return one
    other = searched(f, values, most, with_bound(lows, place, cut + 1), highs)
    if other[0] == "numbers":
        return other
    return ("tree", ("part", place, cut, one[1], other[1]))


def least_size(f, kind, terms):
    """A polynomial of the terms of the least size that tells the function, and a tree that shows that none is less.

    None where no polynomial of the terms tells it.
    """
    if solved(f, kind, terms)[0] == "bar":
        return None
    values = signed_values(f, kind, terms)
    if len(values) == 0:
        return ((kind, ()), ())
    free = (None,) * len(terms)
    tree = ()
    most = 0
    found = searched(f, values, most, free, free)
    while found[0] == "tree":
        tree = found[1]
        most = most + 1
        found = searched(f, values, most, free, free)
    return (poly_from(kind, dict(zip(terms, found[1]))), tree)
