"""The lines that may be said to a desk, each as a word and what is given with it."""

from signpoly.errors import NoLine, NoText
from signpoly.functions import switches_of
from signpoly.polys import KINDS, is_term
from signpoly.reading import read_poly, read_rule
from signpoly.rules import switches_in
from signpoly.showing import LETTERS

FORMS = {
    "opposite": (),
    "turn": ("switch",),
    "hold": ("switch", "state"),
    "back": (),
    "function": (),
    "counts": (),
    "sum": ("kind", "term"),
    "degree": (),
    "weak": (),
    "poly": ("kind",),
    "stands": ("kind", "size"),
    "margin": ("kind", "size"),
    "alone": ("kind", "size"),
    "few": ("kind",),
    "least": ("kind", "size"),
    "many": ("kind", "size"),
}


def number_to(most, word):
    """The number from 0 to most that the word is."""
    numbers = [str(number) for number in range(most + 1)]
    if word not in numbers:
        raise NoLine("no number that may stand there")
    return numbers.index(word)


def term_by(n, word):
    """The term of n switches that the word is, of - the one without a switch."""
    if word == "-":
        return ()
    term = tuple([LETTERS.find(letter) for letter in word])
    if len(term) == 0 or not is_term(term) or term[-1] >= n:
        raise NoLine("no letters of switches, rising")
    return term


def switch_by(n, word):
    """The one of n switches whose letter the word is."""
    term = term_by(n, word)
    if len(term) != 1:
        raise NoLine("no letter of a switch")
    return term[0]


def kind_by(word):
    """The kind that the word is."""
    if word not in KINDS:
        raise NoLine("no kind")
    return word


def thing_by(n, form, word):
    """What the word is, of a function of n switches, where a thing of this form is asked for."""
    if form == "kind":
        return kind_by(word)
    if form == "switch":
        return switch_by(n, word)
    if form == "term":
        return term_by(n, word)
    return number_to(1 if form == "state" else n, word)


def things_by(n, forms, words):
    """What the words are, each of its form."""
    if len(words) != len(forms):
        raise NoLine("more or fewer words than are asked for")
    return tuple([thing_by(n, form, word) for form, word in zip(forms, words)])


def rule_by(n, text):
    """The rule of n switches that is written so."""
    try:
        rule = read_rule(text)
    except NoText as refusal:
        raise NoLine("no rule") from refusal
    if not all([k < n for k in switches_in(rule)]):
        raise NoLine("a rule of switches that aren't there")
    return rule


def poly_by(n, text):
    """The polynomial of n switches that is written so."""
    try:
        poly = read_poly(text)
    except NoText as refusal:
        raise NoLine("no polynomial") from refusal
    if not all([term == () or term[-1] < n for term, number in poly[1]]):
        raise NoLine("a polynomial of switches that aren't there")
    return poly


def line_from(f, thing):
    """The first word of a line that may be said of the function, and a tuple of what is given with it."""
    if not isinstance(thing, str):
        raise NoLine("no text")
    words = thing.split(" ")
    n = switches_of(f)
    if words[0] == "out" and len(words) > 1:
        return ("out", tuple([number_to(len(f) - 1, word) for word in words[1:]]))
    if words[0] == "rule":
        return ("rule", (rule_by(n, " ".join(words[1:])),))
    if words[0] in ("tells", "noughts"):
        return (words[0], (poly_by(n, " ".join(words[1:])),))
    if words[0] not in FORMS:
        raise NoLine("no line begins so")
    return (words[0], things_by(n, FORMS[words[0]], words[1:]))
