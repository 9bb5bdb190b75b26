"""The fewest terms of a polynomial that tells a function."""

from signpoly.functions import switches_of
from signpoly.splits import solved
from signpoly.terms import terms_to


def choices_of(things, many):
    """All rising tuples of so many of the things, which rise, as these tuples rise."""
    if many == 0:
        return [()]
    choices = []
    for place, thing in enumerate(things):
        choices.extend([(thing,) + rest for rest in choices_of(things[place + 1:], many - 1)])
    return choices


def tried(f, kind, choices):
    """The first polynomial of one of the choices of terms that tells the function, or a bar by each of them."""
    bars = []
    for terms in choices:
        answer = solved(f, kind, terms)
        if answer[0] == "poly":
            return answer
        bars.append((terms, answer[1]))
    return ("bars", tuple(bars))


def fewest(f, kind):
    """A polynomial of as few parts as can be that tells the function, and a bar by each choice of one term fewer."""
    n = switches_of(f)
    every = terms_to(n, n)
    many = 0
    bars = ()
    answer = tried(f, kind, choices_of(every, many))
    # By all terms each function is told, so this ends.
    while answer[0] == "bars":
        bars = answer[1]
        many = many + 1
        answer = tried(f, kind, choices_of(every, many))
    return (answer[1], bars)
