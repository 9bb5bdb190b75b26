"""Whether two functions on switches of their own are unlike."""

from signpoly.reckoning import moved, often, product_of


def unlike_at(value, other):
    """1 where both values are told and unlike, 0 where told and alike, else None."""
    if value is None or other is None:
        return None
    return 1 if value != other else 0


def unlike(f, g):
    """The function of f's switches, then g's, that is yes where both are told and unlike, no where told and alike."""
    return tuple([unlike_at(f[row % len(f)], g[row // len(f)]) for row in range(len(f) * len(g))])


def unlike_poly(n, one, other):
    """The polynomial whose value is that of one at the first n switches, times that of other at the rest, times -1."""
    return often(product_of(one, moved(other, n)), -1)


def unlike_weights(one, other):
    """The product of two functions' weights at each row of both."""
    return tuple([one[row % len(one)] * other[row // len(one)] for row in range(len(one) * len(other))])
