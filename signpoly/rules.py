"""Rules: yes and no said in words of switches, and the functions that they tell."""

from signpoly.basics import LAST_SWITCH, is_within, on_in, power_of_two

MOST_DEEP = 6
MOST_RULES = 40
MOST_PARTS = 6
GREATEST_LEAST = 9


def is_row_of_parts(thing):
    """Whether anything may stand where a word asks for a tuple of rules, whatever is in it."""
    return isinstance(thing, tuple) and len(thing) <= MOST_PARTS


def has_form(thing):
    """Whether anything is made like a rule, whatever stands in the places of the rules within it."""
    if not isinstance(thing, tuple) or len(thing) not in (2, 3) or not isinstance(thing[0], str):
        return False
    word = thing[0]
    if word == "least":
        return len(thing) == 3 and is_within(thing[1], 0, GREATEST_LEAST) and is_row_of_parts(thing[2])
    if len(thing) != 2:
        return False
    if word == "switch":
        return is_within(thing[1], 0, LAST_SWITCH)
    if word == "not":
        return True
    return word in ("all", "any", "odd") and is_row_of_parts(thing[1])


def parts_of(rule):
    """The rules that stand straight within the rule."""
    if rule[0] == "switch":
        return ()
    if rule[0] == "not":
        return (rule[1],)
    return rule[-1]


def counted(thing, deep):
    """How many rules anything is, it counted; None where it is no rule or is nested deeper than deep."""
    if deep == 0 or not has_form(thing):
        return None
    many = 1
    for part in parts_of(thing):
        within = counted(part, deep - 1)
        if within is None:
            return None
        many = many + within
    return many


def is_rule(thing):
    """Whether anything is a rule."""
    many = counted(thing, MOST_DEEP)
    return many is not None and many <= MOST_RULES


def switches_in(rule):
    """The switches that the rule has, rising."""
    if rule[0] == "switch":
        return (rule[1],)
    found = []
    for part in parts_of(rule):
        found.extend(switches_in(part))
    return tuple(sorted(set(found)))


def rule_at(rule, row):
    """1 where the rule holds at the row, else 0."""
    word = rule[0]
    if word == "switch":
        return on_in(row, rule[1])
    values = [rule_at(part, row) for part in parts_of(rule)]
    many = sum(values)
    if word == "odd":
        return many % 2
    if word == "not":
        holds = many == 0
    elif word == "all":
        holds = many == len(values)
    elif word == "any":
        holds = many > 0
    else:
        holds = many >= rule[1]
    return 1 if holds else 0


def table_of(rule, n):
    """The full function of n switches that the rule tells."""
    return tuple([rule_at(rule, row) for row in range(power_of_two(n))])
