"""The signs of polynomials, and the functions that they tell."""

from signpoly.basics import power_of_two
from signpoly.errors import OnNought
from signpoly.functions import sign_at, told_rows
from signpoly.polys import value_at
from signpoly.terms import value_of


def sign_of(number):
    """1, -1 or 0 as the number is above, below, at nought."""
    if number == 0:
        return 0
    return 1 if number > 0 else -1


def signs_of(poly, n):
    """The sign of the polynomial's value at each row of n switches."""
    return tuple([sign_of(value_at(poly, row)) for row in range(power_of_two(n))])


def noughts_of(poly, n):
    """The rows of n switches where the polynomial's value is nought, rising."""
    return tuple([row for row, sign in enumerate(signs_of(poly, n)) if sign == 0])


def told_by(poly, n):
    """The full function of n switches that is yes where the value is above nought, no where below."""
    signs = signs_of(poly, n)
    for row, sign in enumerate(signs):
        if sign == 0:
            raise OnNought(row)
    return tuple([1 if sign > 0 else 0 for sign in signs])


def tells(poly, f):
    """Whether at each told row the sign of the polynomial's value is that of the row."""
    return all([value_at(poly, row) * sign_at(f, row) > 0 for row in told_rows(f)])


def signed_value(f, kind, term, row):
    """The sign of a told row times the term's value there."""
    return sign_at(f, row) * value_of(kind, term, row)


def signed_values(f, kind, terms):
    """For each told row, its sign times the value of each of the terms there."""
    return [[signed_value(f, kind, term, row) for term in terms] for row in told_rows(f)]
