"""Small things that several modules need."""

LAST_SWITCH = 5


def is_whole(thing):
    """Whether anything is a whole number; a truth is none."""
    return isinstance(thing, int) and not isinstance(thing, bool)


def is_within(thing, low, high):
    """Whether anything is a whole number from low to high."""
    return is_whole(thing) and low <= thing <= high


def are_amounts(thing, many):
    """Whether anything is a tuple of so many whole numbers from 0 on."""
    if not isinstance(thing, tuple) or len(thing) != many:
        return False
    return all([is_whole(number) and number >= 0 for number in thing])


def power_of_two(k):
    """Two times itself, k times; the number of the row in which switch k alone is on."""
    power = 1
    for step in range(k):
        power = power * 2
    return power


def on_in(row, k):
    """1 where switch k is on in the row, else 0."""
    return row // power_of_two(k) % 2


def greatest_part(numbers):
    """The greatest whole number that parts all of the numbers; 0 where none of them is above or below 0."""
    found = 0
    for number in numbers:
        rest = abs(number)
        while rest != 0:
            over = found % rest
            found = rest
            rest = over
    return found


def lowered(numbers):
    """The numbers parted by the greatest whole number that parts all of them."""
    shared = greatest_part(numbers)
    if shared == 0:
        return tuple(numbers)
    return tuple([number // shared for number in numbers])


def products_together(numbers, others):
    """The sum of the products of the numbers, each with the one in its place among the others."""
    return sum([number * other for number, other in zip(numbers, others)])


def how_many_choices(many, taken):
    """In how many ways so many things can be taken of many."""
    ways = 1
    for k in range(taken):
        ways = ways * (many - k) // (k + 1)
    return ways


def with_bound(bounds, place, bound):
    """The bounds with this one in the place."""
    return bounds[:place] + (bound,) + bounds[place + 1:]


def multiplied(numbers):
    """The product of all of the numbers, 1 of none."""
    product = 1
    for number in numbers:
        product = product * number
    return product
