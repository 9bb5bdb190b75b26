"""Small things that several modules need."""


def is_whole(thing):
    """Whether anything is a whole number; a truth is none."""
    return isinstance(thing, int) and not isinstance(thing, bool)


def is_within(thing, low, high):
    """Whether anything is a whole number from low to high."""
    return is_whole(thing) and low <= thing <= high


def power_of_two(k):
    """Two times itself, k times; the number of the row in which switch k alone is on."""
    power = 1
    for step in range(k):
        power = power * 2
    return power


def on_in(row, k):
    """1 where switch k is on in the row, else 0."""
    return row // power_of_two(k) % 2
