"""The looker for the least size."""

from signpoly.basics import are_amounts, is_whole, is_within, products_together, with_bound
from signpoly.polys import size_of
from signpoly.signs import tells
from signpoly.splitlooks import are_weights, is_poly_by, weighted


def is_five(word, thing):
    """Whether anything is the word with four more things behind it."""
    return isinstance(thing, tuple) and len(thing) == 5 and isinstance(thing[0], str) and thing[0] == word


def is_cut(terms, thing):
    """Whether anything is a node that parts the numbers of one of the terms, whatever its two trees are."""
    return is_five("part", thing) and is_within(thing[1], 0, len(terms) - 1) and is_whole(thing[2])


def below_cut(cut, lows, highs):
    """The first tree of a node, with the bounds that hold there."""
    high = highs[cut[1]]
    bound = cut[2] if high is None else min(high, cut[2])
    return (cut[3], lows, with_bound(highs, cut[1], bound))


def above_cut(cut, lows, highs):
    """The second tree of a node, with the bounds that hold there."""
    low = lows[cut[1]]
    bound = cut[2] + 1 if low is None else max(low, cut[2] + 1)
    return (cut[4], with_bound(lows, cut[1], bound), highs)


def are_by_bounds(bounds, thing):
    """Whether anything is a whole number from 0 on for each bound, 0 where there is None."""
    if not are_amounts(thing, len(bounds)):
        return False
    return all([number == 0 for bound, number in zip(bounds, thing) if bound is None])


def bounds_together(bounds, numbers):
    """The sum of the bounds times their numbers, of None nothing."""
    return products_together([0 if bound is None else bound for bound in bounds], numbers)


def has_leaf_form(f, lows, highs, thing):
    """Whether anything is a leaf with weights of the function, and numbers just for the bounds that there are."""
    if not is_five("leaf", thing) or not are_weights(f, thing[1]):
        return False
    if not are_by_bounds(lows, thing[2]) or not are_by_bounds(highs, thing[3]):
        return False
    return is_whole(thing[4]) and thing[4] >= 0


def shuts_out(f, kind, terms, most, step):
    """Whether a tree is a leaf which shows that no numbers within its bounds, of this size at most, tell the function.

    The step is the tree with its lower and its upper bounds.
    """
    leaf = step[0]
    if not has_leaf_form(f, step[1], step[2], leaf):
        return False
    for term, low, high in zip(terms, leaf[2], leaf[3]):
        if abs(weighted(f, kind, term, leaf[1]) + low - high) > leaf[4]:
            return False
    together = sum(leaf[1]) + bounds_together(step[1], leaf[2]) - bounds_together(step[2], leaf[3])
    return together > leaf[4] * most


def is_tree_against(f, kind, terms, most, thing):
    """Whether anything is a tree which shows that no numbers of this size at most tell the function."""
    free = (None,) * len(terms)
    # What is left to look at stands in a list, as what is handed in may be nested deeper than calls may be.
    left = [(thing, free, free)]
    while left:
        step = left.pop()
        if is_cut(terms, step[0]):
            left.append(above_cut(step[0], step[1], step[2]))
            left.append(below_cut(step[0], step[1], step[2]))
        elif not shuts_out(f, kind, terms, most, step):
            return False
    return True


def shows_size(f, kind, terms, thing):
    """Whether anything is a polynomial of the terms that tells the function, and a tree that shows that none is less.

    The tree is () just where the size is 0.
    """
    if not isinstance(thing, tuple) or len(thing) != 2 or not is_poly_by(kind, terms, thing[0]):
        return False
    if not tells(thing[0], f):
        return False
    size = size_of(thing[0])
    if size == 0:
        return isinstance(thing[1], tuple) and len(thing[1]) == 0
    return is_tree_against(f, kind, terms, size - 1, thing[1])
