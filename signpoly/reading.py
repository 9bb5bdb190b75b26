"""Functions, rules and polynomials read from texts: just what is written so, else refused."""

from signpoly.errors import NoText
from signpoly.functions import is_function
from signpoly.polys import is_poly
from signpoly.rules import MOST_DEEP, is_rule
from signpoly.showing import LETTERS, show_poly

VALUES = {"1": 1, "0": 0, "-": None}
WORDS = {"&": "all", "|": "any", "^": "odd"}
FIGURES = "0123456789"
MOST_FIGURES = 60


def value_by(sign):
    """The value of a function that is written by the sign."""
    if sign not in VALUES:
        raise NoText("no value of a function is written so")
    return VALUES[sign]


def read_function(thing):
    """The function that is written so."""
    if not isinstance(thing, str):
        raise NoText("no text")
    f = tuple([value_by(sign) for sign in thing])
    if not is_function(f):
        raise NoText("no function has so many values")
    return f


def head_by(sign):
    """The first things of a rule with rules in brackets, by the sign ahead of these."""
    if sign in WORDS:
        return (WORDS[sign],)
    if sign in list(FIGURES):
        return ("least", FIGURES.find(sign))
    raise NoText("no rule begins so")


def rules_from(text, place, deep):
    """The rules in the brackets that begin at the place, each nested at most deep, and the place behind these."""
    if text[place:place + 2] == "()":
        return ((), place + 2)
    ahead = text[place:place + 1]
    if ahead != "(":
        raise NoText("no bracket begins where one is asked for")
    rules = []
    while ahead != ")":
        told = rule_from(text, place + 1, deep)
        rules.append(told[0])
        place = told[1]
        ahead = text[place:place + 1]
        if ahead not in (" ", ")"):
            raise NoText("behind a rule in brackets stands neither a blank nor a bracket")
    return (tuple(rules), place + 1)


def rule_from(text, place, deep):
    """The rule that begins at the place, nested at most deep, and the place behind it."""
    if deep == 0:
        raise NoText("rules nested too deep")
    sign = text[place:place + 1]
    if sign in list(LETTERS):
        return (("switch", LETTERS.find(sign)), place + 1)
    if sign == "!":
        told = rule_from(text, place + 1, deep - 1)
        return (("not", told[0]), told[1])
    head = head_by(sign)
    told = rules_from(text, place + 1, deep - 1)
    return (head + (told[0],), told[1])


def read_rule(thing):
    """The rule that is written so."""
    if not isinstance(thing, str):
        raise NoText("no text")
    told = rule_from(thing, 0, MOST_DEEP)
    if told[1] != len(thing) or not is_rule(told[0]):
        raise NoText("more than a rule")
    return told[0]


def number_by(text):
    """The number that stands ahead of a part's letters, of nothing and of - alone 1 and -1."""
    if text in ("", "-"):
        return -1 if text == "-" else 1
    figures = text[1:] if text[:1] == "-" else text
    if len(figures) > MOST_FIGURES or not all([sign in FIGURES for sign in figures]):
        raise NoText("no number is written so")
    return int(text)


def part_by(word):
    """The term and the number of one part, which may be written otherwise than a polynomial's is."""
    ahead = word.rstrip(LETTERS)
    return (tuple([LETTERS.find(letter) for letter in word[len(ahead):]]), number_by(ahead))


def read_poly(thing):
    """The polynomial that is written so."""
    if not isinstance(thing, str):
        raise NoText("no text")
    words = thing.split(" ")
    parts = words[1:]
    poly = (words[0], () if parts == ["0"] else tuple([part_by(word) for word in parts]))
    # What is read may be written otherwise: with a 0 ahead, a 1 ahead of letters, a - or nothing without letters.
    if not is_poly(poly) or show_poly(poly) != thing:
        raise NoText("no polynomial is written so")
    return poly
