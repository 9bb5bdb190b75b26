"""What a desk answers of its function: to each word, with what is given behind it."""

from signpoly.counts import counts_of
from signpoly.degrees import least_degree, weak_degree
from signpoly.exacts import sum_by
from signpoly.fews import fewest
from signpoly.functions import switches_of, told_rows
from signpoly.margins import widest
from signpoly.numbers import how_many
from signpoly.polys import size_of
from signpoly.showing import show_function, show_number, show_poly
from signpoly.signs import noughts_of, tells
from signpoly.sizes import least_size
from signpoly.splits import stands_on
from signpoly.sums import alone
from signpoly.terms import terms_to


def terms_by(f, given):
    """The terms of the function's switches to the size that is given behind the kind."""
    return terms_to(switches_of(f), given[1])


def yes_or_no(truth):
    """The word for a truth."""
    return "yes" if truth else "no"


def show_rows(rows):
    """The rows, blanks between, none where there is none."""
    return "none" if len(rows) == 0 else " ".join([str(row) for row in rows])


def function_line(f, given):
    """The function's text."""
    return show_function(f)


def counts_line(f, given):
    """The values along the counts, none where the function isn't told by these."""
    row = counts_of(f)
    return "none" if row is None else show_function(row)


def sum_line(f, given):
    """The sum by a kind and a term."""
    return show_number(sum_by(f, given[0], given[1]))


def tells_line(f, given):
    """Whether the polynomial tells the function."""
    return yes_or_no(tells(given[0], f))


def noughts_line(f, given):
    """The rows where the polynomial is nought."""
    return show_rows(noughts_of(given[0], switches_of(f)))


def degree_line(f, given):
    """The least degree, by both kinds the same."""
    return show_number(least_degree(f, "odd")[0])


def weak_line(f, given):
    """The weak degree, by both kinds the same."""
    return show_number(weak_degree(f, "odd")[0])


def poly_line(f, given):
    """A polynomial of the kind and of the least degree that tells the function."""
    return show_poly(least_degree(f, given[0])[1])


def stands_line(f, given):
    """The rows that stand on nought by the kind and the terms."""
    return show_rows(stands_on(f, given[0], terms_by(f, given)))


def margin_line(f, given):
    """The widest margin by the kind and the terms."""
    value = widest(f, given[0], terms_by(f, given))[0]
    return show_number(value[0]) + "/" + show_number(value[1])


def alone_line(f, given):
    """Whether the function has its sums by the kind and the terms alone."""
    return yes_or_no(alone(f, given[0], terms_by(f, given))[0] == "alone")


def few_line(f, given):
    """How few terms a polynomial of the kind that tells the function has."""
    return show_number(len(fewest(f, given[0])[0][1]))


def least_line(f, given):
    """The least size by the kind and the terms, none where no polynomial of these tells the function."""
    told = least_size(f, given[0], terms_by(f, given))
    return "none" if told is None else show_number(size_of(told[0]))


def many_line(f, given):
    """How many functions of as many switches the terms tell by the kind."""
    return show_number(how_many(switches_of(f), given[0], terms_by(f, given)))


ANSWERS = {
    "function": function_line,
    "counts": counts_line,
    "sum": sum_line,
    "tells": tells_line,
    "noughts": noughts_line,
    "degree": degree_line,
    "weak": weak_line,
    "poly": poly_line,
    "stands": stands_line,
    "margin": margin_line,
    "alone": alone_line,
    "few": few_line,
    "least": least_line,
    "many": many_line,
}
MOST_SWITCHES = {
    "degree": 4,
    "weak": 4,
    "poly": 4,
    "stands": 4,
    "margin": 4,
    "alone": 4,
    "few": 3,
    "least": 3,
    "many": 3,
}
MOST_TERMS = {"least": 5}


def is_great(f, word, given):
    """Whether the switches, or the terms, are more than the most for which the word's answer is promised."""
    if word in MOST_SWITCHES and switches_of(f) > MOST_SWITCHES[word]:
        return True
    return word in MOST_TERMS and len(terms_by(f, given)) > MOST_TERMS[word]


def is_open(f, word):
    """Whether too few rows are told for the word to be answered."""
    many = len(told_rows(f))
    if word in ("weak", "margin"):
        return many == 0
    return word in ("counts", "alone") and many < len(f)


def answer_of(f, word, given):
    """The answer to a word, with what is given behind it, of the function."""
    if is_great(f, word, given):
        return "great"
    if is_open(f, word):
        return "open"
    answer = ANSWERS[word]
    return answer(f, given)
