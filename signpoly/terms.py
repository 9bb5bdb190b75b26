"""Terms: rising tuples of switches, and their values at rows."""

from signpoly.basics import on_in


def terms_to(n, size):
    """The terms of n switches of at most so many switches, rising."""
    terms = [()]
    for k in range(n):
        terms = terms + [term + (k,) for term in terms if len(term) < size]
    return tuple(sorted(terms))


def value_of(kind, term, row):
    """The value of the term at the row: by "both" 1 or 0, by "odd" 1 or -1."""
    many = sum([on_in(row, k) for k in term])
    if kind == "both":
        return 1 if many == len(term) else 0
    return -1 if many % 2 == 1 else 1
