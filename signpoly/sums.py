"""Whether a full function has its sums by some terms alone among all rows of numbers from -1 to 1."""

from signpoly.functions import sign_at
from signpoly.splits import solved


def alone(f, kind, terms):
    """A polynomial of the terms that tells the full function; or numbers, by a part, that share its sums."""
    answer = solved(f, kind, terms)
    if answer[0] == "poly":
        return ("alone", answer[1])
    # By the bar's weights the signs come to nought, so taking them away from the signs leaves the sums.
    part = max(answer[1])
    return ("other", tuple([sign_at(f, row) * (part - weight) for row, weight in enumerate(answer[1])]), part)
