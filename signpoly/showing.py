"""Functions, rules and polynomials written as texts."""

LETTERS = "abcdef"
SIGNS = {"all": "&", "any": "|", "odd": "^"}
BLOCK = 1000000000000000000


def show_function(f):
    """The function's values from row 0 on, - for those that aren't told."""
    return "".join(["-" if value is None else str(value) for value in f])


def show_rule(rule):
    """The rule's sign, then its rules in brackets; of a switch its letter."""
    if rule[0] == "switch":
        return LETTERS[rule[1]]
    if rule[0] == "not":
        return "!" + show_rule(rule[1])
    ahead = str(rule[1]) if rule[0] == "least" else SIGNS[rule[0]]
    return ahead + "(" + " ".join([show_rule(part) for part in rule[-1]]) + ")"


def show_number(number):
    """The number's figures, - ahead below 0."""
    # Python's own text of a number isn't given beyond some thousand figures, so it is asked for block by block.
    figures = ""
    rest = abs(number)
    while rest >= BLOCK:
        figures = str(rest % BLOCK).zfill(18) + figures
        rest = rest // BLOCK
    return ("-" if number < 0 else "") + str(rest) + figures


def show_part(term, number):
    """The number and the term's letters; of a term with a letter 1 isn't written, of -1 the - alone."""
    letters = "".join([LETTERS[k] for k in term])
    if letters != "" and abs(number) == 1:
        return ("-" if number < 0 else "") + letters
    return show_number(number) + letters


def show_poly(poly):
    """The polynomial's kind and its parts in their order; without parts the kind and 0."""
    if len(poly[1]) == 0:
        return poly[0] + " 0"
    return " ".join([poly[0]] + [show_part(term, number) for term, number in poly[1]])
