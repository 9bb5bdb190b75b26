"""The looker for functions that have their sums alone."""

from signpoly.basics import is_whole, is_within, products_together
from signpoly.exacts import sum_by
from signpoly.functions import sign_at
from signpoly.signs import tells
from signpoly.splitlooks import is_poly_by
from signpoly.terms import value_of


def are_within(many, part, thing):
    """Whether anything is a tuple of so many whole numbers from -part to part."""
    if not isinstance(thing, tuple) or len(thing) != many:
        return False
    return all([is_within(number, -part, part) for number in thing])


def shares_sum(f, kind, term, numbers, part):
    """Whether the numbers times the term's values come to part times the function's sum."""
    values = [value_of(kind, term, row) for row in range(len(f))]
    return products_together(numbers, values) == part * sum_by(f, kind, term)


def is_another(f, kind, terms, numbers, part):
    """Whether these are numbers, to be parted by part, that aren't the signs and share the function's sums."""
    if not is_whole(part) or part < 1 or not are_within(len(f), part, numbers):
        return False
    if all([number == part * sign_at(f, row) for row, number in enumerate(numbers)]):
        return False
    return all([shares_sum(f, kind, term, numbers, part) for term in terms])


def shows_alone(f, kind, terms, thing):
    """Whether anything is a polynomial of the terms that tells the function, or other numbers that share its sums."""
    if not isinstance(thing, tuple) or len(thing) not in (2, 3) or not isinstance(thing[0], str):
        return False
    if len(thing) == 2:
        return thing[0] == "alone" and is_poly_by(kind, terms, thing[1]) and tells(thing[1], f)
    return thing[0] == "other" and is_another(f, kind, terms, thing[1], thing[2])
