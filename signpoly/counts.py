"""Functions that are told by how many switches are on."""

from signpoly.basics import how_many_choices, lowered, multiplied, power_of_two
from signpoly.functions import switches_of
from signpoly.reckoning import gathered, product_of


def many_on(row):
    """How many switches are on in the row of a function."""
    many = 0
    while row > 0:
        many = many + row % 2
        row = row // 2
    return many


def by_counts(row):
    """The full function whose value is row[c] where c switches are on."""
    return tuple([row[many_on(place)] for place in range(power_of_two(len(row) - 1))])


def counts_of(f):
    """The row by which counts tell a full function, None where they don't."""
    # In the row before that of one switch alone just the switches below that one are on.
    row = tuple([f[power_of_two(count) - 1] for count in range(switches_of(f) + 1)])
    return row if by_counts(row) == f else None


def ends_of(row):
    """The counts behind which the value is another one, rising."""
    return [count for count in range(len(row) - 1) if row[count] != row[count + 1]]


def changes_of(row):
    """How many values are unlike the one ahead."""
    return len(ends_of(row))


def twice_above(n, end):
    """The polynomial of n switches that is twice the count, less what lies halfway behind the end."""
    return gathered("both", [((), -2 * end - 1)] + [((k,), 2) for k in range(n)])


def counts_poly(row):
    """A polynomial of kind "both", of the degree of the changes, that tells by_counts(row)."""
    # Where all switches are on each factor is above nought; each end on the way down turns one of them.
    poly = ("both", (((), 1 if row[-1] == 1 else -1),))
    for end in ends_of(row):
        poly = product_of(poly, twice_above(len(row) - 1, end))
    return poly


def share_of(n, counts, count):
    """What the weight of each row with this count is to be parted by, for polynomials of the count to come to nought.

    By the ways apart from the other counts, with signs that change from count to count, each polynomial of the count
    of lower degree than there are changes comes to nought; the count's rows share this.
    """
    return multiplied([abs(count - other) for other in counts if other != count]) * how_many_choices(n, count)


def counts_bar(row):
    """A bar of by_counts(row) by all terms of fewer switches than there are changes; None for no change."""
    n = len(row) - 1
    if changes_of(row) == 0:
        return None
    counts = ends_of(row) + [n]
    shares = [share_of(n, counts, count) for count in counts]
    weights = [0] * len(row)
    for count, share in zip(counts, shares):
        weights[count] = multiplied(shares) // share
    return lowered(by_counts(weights))
