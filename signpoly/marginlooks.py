"""The looker for the widest margin."""

from signpoly.basics import greatest_part, is_whole
from signpoly.margins import margin_of
from signpoly.splitlooks import are_weights, is_poly_by, weighted


def is_fraction(thing):
    """Whether anything is a fraction in lowest terms."""
    if not isinstance(thing, tuple) or len(thing) != 2 or not is_whole(thing[0]) or not is_whole(thing[1]):
        return False
    return thing[1] >= 1 and greatest_part(thing) == 1


def is_wide(f, kind, terms, value, thing):
    """Whether anything is a polynomial of the terms with this margin, no whole number above 1 parting its numbers."""
    if not is_poly_by(kind, terms, thing) or greatest_part([number for term, number in thing[1]]) != 1:
        return False
    return margin_of(f, thing) == value


def are_against_wider(f, kind, terms, value, thing):
    """Whether anything is weights, not all 0, by which no weighted sum is in size more than value times all of them."""
    if not are_weights(f, thing) or not any(thing):
        return False
    most = value[0] * sum(thing)
    return all([abs(weighted(f, kind, term, thing)) * value[1] <= most for term in terms])


def shows_widest(f, kind, terms, thing):
    """Whether anything is the widest margin, a polynomial with it, None for (0, 1), and weights that show it."""
    if not isinstance(thing, tuple) or len(thing) != 3 or not is_fraction(thing[0]):
        return False
    if not are_against_wider(f, kind, terms, thing[0], thing[2]):
        return False
    if thing[0][0] > 0:
        return is_wide(f, kind, terms, thing[0], thing[1])
    return thing[0][0] == 0 and thing[1] is None
