"""A desk: a function that lines change, take back and ask about."""

from signpoly.answers import answer_of
from signpoly.functions import switches_of
from signpoly.lines import line_from
from signpoly.moves import held, left_out, opposite, turned
from signpoly.reading import read_function
from signpoly.rules import table_of

MOVES = ("opposite", "turn", "hold", "out", "rule")


def changed(f, word, given):
    """The function that one of the moving lines makes of the function."""
    if word == "opposite":
        return opposite(f)
    if word == "turn":
        return turned(f, given)
    if word == "hold":
        return held(f, given[0], given[1])
    if word == "out":
        return left_out(f, given)
    return table_of(given[0], switches_of(f))


class Desk:
    """Keeps a function and those that it was ahead of each moving line that isn't taken back."""

    def __init__(self, text):
        self.function = read_function(text)
        self.earlier = []

    def say(self, line):
        """Does what the line says and answers it."""
        told = line_from(self.function, line)
        if told[0] == "back":
            return self.take_back()
        if told[0] not in MOVES:
            return answer_of(self.function, told[0], told[1])
        self.earlier.append(self.function)
        self.function = changed(self.function, told[0], told[1])
        return "done"

    def take_back(self):
        """Makes the function what it was ahead of the last moving line that isn't taken back."""
        if len(self.earlier) == 0:
            return "none"
        self.function = self.earlier.pop()
        return "done"
