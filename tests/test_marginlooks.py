import random
import unittest

from samples import (KINDS, STRANGE, choose, functions_of, is_sound_widest, look_alike_otherwise, some_terms, told_in,
                     told_twice)
from signpoly.marginlooks import shows_widest
from signpoly.margins import widest
from signpoly.reckoning import often
from signpoly.terms import terms_to

BOTH_ON = (0, 0, 0, 1)
TO_ONE = terms_to(2, 1)
ALL_ON = ("odd", (((), -1), ((0,), -1), ((1,), -1)))


def cases(most_switches, many, seed):
    chance = random.Random(seed)
    for n in range(most_switches + 1):
        for f in [f for f in functions_of(n, seed) if told_in(f)]:
            for kind in KINDS:
                for terms in choose(chance, some_terms(n, chance), many):
                    yield f, kind, terms


def times(weights, number):
    return tuple(number * weight for weight in weights)


class MarginLooks(unittest.TestCase):
    def shows(self, f, kind, terms, thing):
        self.assertIs(shows_widest(f, kind, terms, thing), True, (f, kind, terms, thing))

    def refuses(self, f, kind, terms, thing):
        self.assertIs(shows_widest(f, kind, terms, thing), False, (f, kind, terms, thing))

    def test_what_is_told(self):
        for f, kind, terms in cases(4, 4, 1):
            value, poly, weights = widest(f, kind, terms)
            self.assertIs(told_twice(self, shows_widest, f, kind, terms, (value, poly, weights)), True)
            for number in (2, 3, 10 ** 30):
                self.shows(f, kind, terms, (value, poly, times(weights, number)))
                self.refuses(f, kind, terms, (times(value, number), poly, weights))
                if poly is not None:
                    self.refuses(f, kind, terms, (value, often(poly, number), weights))
            for number in (0, -1):
                self.refuses(f, kind, terms, (value, poly, times(weights, number)))
            for place in (0, 1):
                for step in (-1, 1):
                    other = value[:place] + (value[place] + step,) + value[place + 1:]
                    self.refuses(f, kind, terms, (other, poly, weights))

    def test_each_clause(self):
        weights = (0, 1, 1, 1)
        self.shows(BOTH_ON, "odd", TO_ONE, ((1, 3), ALL_ON, weights))
        self.shows(BOTH_ON, "odd", TO_ONE, ((1, 3), ALL_ON, (0, 5, 5, 5)))
        # Not in lowest terms, greater, less, below nought.
        for value in ((2, 6), (1, 2), (1, 4), (0, 1), (-1, 3), (1, -3), (-1, -3), (1, 0), (0, 0), (1, 1)):
            self.refuses(BOTH_ON, "odd", TO_ONE, (value, ALL_ON, weights))
            self.refuses(BOTH_ON, "odd", TO_ONE, (value, None, weights))
        for poly in (often(ALL_ON, 2), often(ALL_ON, -1), None, ("odd", ()), ("odd", (((), -1), ((0,), -1))),
                     ("both", ALL_ON[1]), ("odd", ALL_ON[1][::-1]), ("odd", (((), -1), ((0,), -2), ((1,), -1)))):
            self.refuses(BOTH_ON, "odd", TO_ONE, ((1, 3), poly, weights))
        for other in ((0, 0, 0, 0), (1, 1, 1, 1), (0, 1, 1, 2), (0, 1, 1), (0, 1, 1, 1, 0), (0, -1, -1, -1), None, ()):
            self.refuses(BOTH_ON, "odd", TO_ONE, ((1, 3), ALL_ON, other))
        # A polynomial of a term that isn't among the terms, which has the margin.
        self.refuses(BOTH_ON, "odd", ((0,),), ((1, 3), ALL_ON, (0, 0, 0, 1)))
        more = ("odd", (((), -1), ((0,), -1), ((0, 1), 1), ((1,), -1)))
        self.shows(BOTH_ON, "odd", terms_to(2, 2), ((1, 2), more, (1, 1, 1, 1)))
        self.refuses(BOTH_ON, "odd", TO_ONE, ((1, 2), more, (1, 1, 1, 1)))
        self.refuses(BOTH_ON, "odd", terms_to(2, 2), ((1, 3), ALL_ON, weights))

    def test_no_margin_above_nought(self):
        unlike = (0, 1, 1, 0)
        self.shows(unlike, "odd", TO_ONE, ((0, 1), None, (3, 3, 3, 3)))
        self.refuses(unlike, "odd", TO_ONE, ((0, 1), None, (3, 3, 3, 4)))
        self.refuses(unlike, "odd", TO_ONE, ((0, 2), None, (3, 3, 3, 3)))
        self.refuses(unlike, "odd", TO_ONE, ((0, -1), None, (3, 3, 3, 3)))
        self.refuses(unlike, "odd", TO_ONE, ((0, 1), ("odd", ()), (3, 3, 3, 3)))
        self.refuses(unlike, "odd", TO_ONE, ((0, 1), (), (3, 3, 3, 3)))
        self.refuses(unlike, "odd", TO_ONE, ((-1, 1), ("odd", (((), 1),)), (3, 3, 3, 3)))
        self.refuses(unlike, "odd", TO_ONE, ((-1, 1), None, (3, 3, 3, 3)))
        # A polynomial whose margin is nought, where none is wider: None is asked for.
        self.refuses((0, 1), "both", ((0,),), ((0, 1), ("both", (((0,), 1),)), (1, 0)))
        self.shows((0, 1), "both", ((0,),), ((0, 1), None, (1, 0)))
        for value in ((-1, 1), (1, 1), (-5, 3), (0, 1)):
            self.assertIs(shows_widest((0, 1), "both", (), (value, None, (1, 0))), value == (0, 1))

    def test_rows_that_are_not_told(self):
        f = (0, None, None, 1)
        one = ("odd", (((0,), -1),))
        self.shows(f, "odd", TO_ONE, ((1, 1), one, (1, 0, 0, 1)))
        self.shows(f, "odd", TO_ONE, ((1, 1), ("odd", (((1,), -1),)), (1, 0, 0, 0)))
        self.shows(f, "odd", TO_ONE, ((1, 1), ("odd", (((0,), -1), ((1,), -2))), (0, 0, 0, 4)))
        self.refuses(f, "odd", TO_ONE, ((1, 1), one, (1, 1, 0, 1)))
        self.refuses(f, "odd", TO_ONE, ((1, 1), one, (0, 0, 1, 0)))
        self.refuses(f, "odd", ((), (0,)), ((1, 1), ("odd", (((1,), -1),)), (1, 0, 0, 1)))
        self.refuses((1,), "odd", ((),), ((1, 1), ("odd", (((0,), 1),)), (1,)))
        self.shows((1,), "odd", ((),), ((1, 1), ("odd", (((), 1),)), (1,)))

    def test_one_place_otherwise(self):
        look_alike_otherwise(self, shows_widest, is_sound_widest, [(case, widest(*case)) for case in cases(2, 4, 3)])

    def test_anything(self):
        for f, kind, terms in (((1,), "odd", ((),)), ((1, None), "both", ()), ((0, 1), "odd", ((), (0,)))):
            one = widest(f, kind, terms)
            for thing in STRANGE:
                self.refuses(f, kind, terms, thing)
                for filled in ((thing,) * 3, (thing,) + one[1:], (one[0], thing, one[2]), one[:2] + (thing,), one + (thing,),
                               ((thing, 1),) + one[1:], ((1, thing),) + one[1:], (one[0], (kind, thing), one[2]),
                               (one[0], (kind, (thing,)), one[2]), one[:2] + ((thing,) * len(f),)):
                    shown = shows_widest(f, kind, terms, filled)
                    self.assertIs(shown, is_sound_widest(f, kind, terms, filled), filled)
        self.refuses((1,), "odd", ((),), ((True, 1), ("odd", (((), 1),)), (1,)))
        self.refuses((1,), "odd", ((),), ((1, True), ("odd", (((), 1),)), (1,)))
        self.refuses((1,), "odd", ((),), ([1, 1], ("odd", (((), 1),)), (1,)))
        self.refuses((1,), "odd", ((),), [(1, 1), ("odd", (((), 1),)), (1,)])


if __name__ == "__main__":
    unittest.main()
