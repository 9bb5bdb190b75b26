"""Thin bars: such as have no other's rows, and not all of theirs, among theirs."""

from signpoly.basics import greatest_part, lowered
from signpoly.mosts import least_ratio
from signpoly.signs import signed_value
from signpoly.splitlooks import is_bar
from signpoly.splits import one_at, rows_above


def first_place(numbers):
    """The place of the first number that isn't 0, None where all are."""
    for place, number in enumerate(numbers):
        if number != 0:
            return place
    return None


def cleared(line, other, place):
    """The line, some times, with so much of the other that in the place there is 0."""
    return lowered([number * other[place] - times * line[place] for number, times in zip(line, other)])


def first_tie(lines):
    """Numbers, not all 0, times which the lines come to nought together; None where there are none.

    The lines ahead of the last one whose number isn't 0 have no tie of their own.
    """
    firsts = []
    for place, line in enumerate(lines):
        # Behind the line's own numbers stands of which lines it is made.
        made = tuple(line + one_at(place, len(lines)))
        for other in firsts:
            made = cleared(made, other, first_place(other))
        if first_place(made) >= len(line):
            return made[len(line):]
        firsts.append(made)
    return None


def tie_of(f, kind, terms, rows):
    """A number for each row of the function, by which the terms' signed values come to nought, 0 but at the rows."""
    tie = [0] * len(f)
    lines = [[signed_value(f, kind, term, row) for term in terms] for row in rows]
    for row, number in zip(rows, first_tie(lines)):
        tie[row] = number
    return tie


def lessened(weights, tie):
    """The weights, some times, less so much of the tie that one more of them is 0 and none below."""
    if max(tie) == 0:
        tie = [-number for number in tie]
    rows = [row for row, number in enumerate(tie) if number > 0]
    least = least_ratio(rows, weights, tie)[0]
    return lowered([weight * tie[least] - number * weights[least] for weight, number in zip(weights, tie)])


def thinned(f, kind, terms, bar):
    """A thin bar whose rows are among the bar's."""
    weights = lowered(bar)
    tie = tie_of(f, kind, terms, rows_above(weights))
    # A tie without the last row isn't some times the weights, so what is lessened by it is a bar still.
    while tie[rows_above(weights)[-1]] == 0:
        weights = lessened(weights, tie)
        tie = tie_of(f, kind, terms, rows_above(weights))
    return weights


def is_thin(f, kind, terms, thing):
    """Whether anything is a thin bar of the function by the kind and the terms."""
    if not is_bar(f, kind, terms, thing) or greatest_part(thing) != 1:
        return False
    rows = rows_above(thing)
    return tie_of(f, kind, terms, rows)[rows[-1]] != 0
