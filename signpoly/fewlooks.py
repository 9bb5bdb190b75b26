"""The looker for the fewest terms."""

from signpoly.basics import how_many_choices
from signpoly.functions import switches_of
from signpoly.polys import is_term
from signpoly.signs import tells
from signpoly.splitlooks import is_bar, is_poly_by
from signpoly.terms import terms_to


def are_rising(things):
    """Whether each of the things is more than the one ahead."""
    return all([one < other for one, other in zip(things, things[1:])])


def is_choice(every, many, thing):
    """Whether anything is a rising tuple of so many of all terms."""
    if not isinstance(thing, tuple) or len(thing) != many:
        return False
    return all([is_term(term) and term in every for term in thing]) and are_rising(thing)


def is_barred_choice(f, kind, every, many, thing):
    """Whether anything is a rising tuple of so many of all terms, and a bar by it."""
    if not isinstance(thing, tuple) or len(thing) != 2 or not is_choice(every, many, thing[0]):
        return False
    return is_bar(f, kind, thing[0], thing[1])


def are_bars(f, kind, every, many, thing):
    """Whether anything is a tuple with each rising tuple of so many of all terms, as they rise, and a bar by it."""
    # Such as rise and are as many as there can be are all.
    if not isinstance(thing, tuple) or len(thing) != how_many_choices(len(every), many):
        return False
    if not all([is_barred_choice(f, kind, every, many, pair) for pair in thing]):
        return False
    return are_rising([pair[0] for pair in thing])


def shows_fewest(f, kind, thing):
    """Whether anything is a polynomial that tells the function, and bars that show that no fewer terms do."""
    every = terms_to(switches_of(f), switches_of(f))
    if not isinstance(thing, tuple) or len(thing) != 2 or not is_poly_by(kind, every, thing[0]):
        return False
    if not tells(thing[0], f):
        return False
    if len(thing[0][1]) == 0:
        return isinstance(thing[1], tuple) and len(thing[1]) == 0
    return are_bars(f, kind, every, len(thing[0][1]) - 1, thing[1])
