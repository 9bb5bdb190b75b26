"""The looker for the greatest sum of gains within bounds."""

from signpoly.basics import are_amounts, is_whole, products_together


def column_of(rows, place):
    """The number that each row has in the place."""
    return [row[place] for row in rows]


def within_bounds(rows, bounds, amounts, part):
    """Whether each row comes to at most its bound by the amounts, to be parted by part."""
    return all([products_together(row, amounts) <= bound * part for row, bound in zip(rows, bounds)])


def cover_gains(rows, gains, prices, part):
    """Whether the rows' numbers at each amount come to at least its gain by the prices, to be parted by part."""
    return all([products_together(column_of(rows, place), prices) >= gain * part for place, gain in enumerate(gains)])


def are_most(rows, bounds, gains, part, amounts, prices):
    """Whether these are amounts with the greatest gains, and the prices that show it."""
    if not is_whole(part) or part < 1:
        return False
    if not are_amounts(amounts, len(gains)) or not are_amounts(prices, len(rows)):
        return False
    if not within_bounds(rows, bounds, amounts, part) or not cover_gains(rows, gains, prices, part):
        return False
    return products_together(bounds, prices) == products_together(gains, amounts)


def is_way(rows, gains, way):
    """Whether the gains grow without end this way."""
    if not are_amounts(way, len(gains)):
        return False
    return within_bounds(rows, [0] * len(rows), way, 1) and products_together(gains, way) > 0


def shows_most(rows, bounds, gains, thing):
    """Whether anything is the greatest sum of gains with its prices, or a way on which there is no greatest."""
    if not isinstance(thing, tuple) or len(thing) not in (2, 4) or not isinstance(thing[0], str):
        return False
    if len(thing) == 4:
        return thing[0] == "most" and are_most(rows, bounds, gains, thing[1], thing[2], thing[3])
    return thing[0] == "beyond" and is_way(rows, gains, thing[1])
