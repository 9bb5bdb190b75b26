import random
import unittest

from samples import (KINDS, STRANGE, functions_by_number, functions_of, is_sound_degree, is_sound_weak,
                     look_alike_otherwise, told_in, told_twice)
from signpoly.degreelooks import shows_degree, shows_weak
from signpoly.degrees import least_degree, weak_degree
from signpoly.polys import poly_from
from signpoly.reckoning import added, often, other_kind

UNLIKE = (0, 1, 1, 0)
BOTH_ON = (0, 0, 0, 1)
ALL_ON = ("both", (((), -3), ((0,), 2), ((1,), 2)))


def across(kind):
    return "both" if kind == "odd" else "odd"


def times(weights, number):
    return None if weights is None else tuple(number * weight for weight in weights)


def functions(seed):
    """Functions with a told row, of 0 to 4 switches."""
    for n in (0, 1):
        yield from [f for f in functions_by_number(n) if told_in(f)]
    for n in (2, 3, 4):
        yield from [f for f in functions_of(n, seed) if told_in(f)]


LOOKERS = ((shows_degree, least_degree, is_sound_degree), (shows_weak, weak_degree, is_sound_weak))


class DegreeLooks(unittest.TestCase):
    def test_what_is_told_and_others(self):
        for looker, teller, sound in LOOKERS:
            for f in functions(1):
                for kind in KINDS:
                    degree, poly, weights = teller(f, kind)
                    one = teller(f, across(kind))
                    self.assertIs(told_twice(self, looker, f, kind, (degree, poly, weights)), True)
                    for number in (2, 7, 10 ** 30):
                        self.assertIs(looker(f, kind, (degree, often(poly, number), times(weights, number))), True)
                    # The other kind's polynomial turned into this one, and the other kind's weights.
                    self.assertIs(looker(f, kind, (degree, other_kind(one[1]), one[2])), True)
                    self.assertIs(looker(f, kind, (degree, added(poly, other_kind(one[1])), weights)), True)
                    self.assertIs(looker(f, across(kind), (degree, poly, weights)), False)
                    self.assertIs(looker(f, across(kind), (degree, other_kind(poly), weights)), True)

    def test_written_out(self):
        bar = (1, 0, 0, 1)
        self.assertIs(shows_degree(BOTH_ON, "both", (1, ALL_ON, bar)), True)
        self.assertIs(shows_degree(BOTH_ON, "both", (1, ALL_ON, (1, 1, 1, 3))), True)
        self.assertIs(shows_weak(BOTH_ON, "both", (1, ALL_ON, (1, 1, 1, 3))), True)
        self.assertIs(shows_weak(BOTH_ON, "both", (1, ALL_ON, bar)), False)
        at_nought = ("both", (((), -2), ((0,), 1), ((1,), 1)))
        self.assertIs(shows_degree(BOTH_ON, "both", (1, at_nought, bar)), False)
        self.assertIs(shows_weak(BOTH_ON, "both", (1, at_nought, (1, 1, 1, 3))), True)
        somewhere_wrong = ("both", (((), -1), ((0,), 2)))
        self.assertIs(shows_weak(BOTH_ON, "both", (1, somewhere_wrong, (1, 1, 1, 3))), False)
        self.assertIs(shows_weak(BOTH_ON, "both", (1, ("both", ()), (1, 1, 1, 3))), False)
        self.assertIs(shows_weak(UNLIKE, "odd", (2, ("odd", (((0, 1), -1),)), (1, 1, 1, 1))), True)
        self.assertIs(shows_degree(UNLIKE, "odd", (2, ("odd", (((0, 1), -1),)), (4, 4, 4, 4))), True)
        self.assertIs(shows_degree((1,), "odd", (0, ("odd", (((), 5),)), None)), True)
        self.assertIs(shows_weak((1,), "odd", (0, ("odd", (((), 5),)), None)), True)
        self.assertIs(shows_degree((None,), "odd", (0, ("odd", ()), None)), True)
        self.assertIs(shows_degree((None, None), "odd", (0, ("odd", (((), -5),)), None)), True)
        self.assertIs(shows_degree((None, None), "odd", (0, ("odd", (((0,), -5),)), None)), False)
        self.assertIs(shows_degree((None, None), "odd", (1, ("odd", (((0,), -5),)), (0, 0))), False)

    def test_of_a_degree_too_great_or_too_small(self):
        # A polynomial of higher degree that tells, with a bar that is one.
        more = ("both", (((), -1), ((0, 1), 2)))
        for bar in ((1, 0, 0, 1), (1, 1, 1, 3)):
            for looker in (shows_degree, shows_weak):
                for degree in (-1, 0, 1, 2, 3, 10 ** 30):
                    self.assertIs(looker(BOTH_ON, "both", (degree, more, bar)), False)
        for degree in (-1, 0, 2, 3):
            self.assertIs(shows_degree(BOTH_ON, "both", (degree, ALL_ON, (1, 0, 0, 1))), False)
            self.assertIs(shows_degree(BOTH_ON, "both", (degree, ALL_ON, None)), False)
            self.assertIs(shows_weak(BOTH_ON, "both", (degree, ALL_ON, (1, 1, 1, 3))), False)
        for weights in (None, (0, 0), (1, 1), (1, 0)):
            self.assertIs(shows_degree((1, 1), "both", (1, ("both", (((), 1), ((0,), 1))), weights)), False)
            self.assertIs(shows_degree((1, 1), "both", (1, ("both", (((), 1),)), weights)), False)
        self.assertIs(shows_degree((1, 1), "both", (0, ("both", (((), 1), ((0,), 1))), None)), False)

    def test_weights_where_none_are_asked_and_the_other_way_round(self):
        one = ("both", (((), 1),))
        for looker in (shows_degree, shows_weak):
            self.assertIs(looker((1, 1), "both", (0, one, None)), True)
            for weights in ((0, 0), (1, 1), (), 0, False):
                self.assertIs(looker((1, 1), "both", (0, one, weights)), False)
            self.assertIs(looker(BOTH_ON, "both", (1, ALL_ON, None)), False)
            self.assertIs(looker(BOTH_ON, "both", (1, ALL_ON, (0, 0, 0, 0))), False)
            self.assertIs(looker(BOTH_ON, "both", (1, ALL_ON, (1, 1, 1, 2))), False)

    def test_switches_that_the_function_has_not(self):
        f = (0, 1)
        for looker in (shows_degree, shows_weak):
            self.assertIs(looker(f, "odd", (1, ("odd", (((0,), -2),)), (1, 1))), True)
            self.assertIs(looker(f, "odd", (1, ("odd", (((0,), -2), ((1,), 1))), (1, 1))), False)
            self.assertIs(looker((1,), "odd", (0, ("odd", (((), 2), ((0,), 1))), None)), False)
            self.assertIs(looker((1,), "odd", (1, ("odd", (((), 2), ((0,), 1))), (0,))), False)

    def test_rows_that_are_not_told(self):
        f = (0, None, None, 1)
        for looker in (shows_degree, shows_weak):
            self.assertIs(looker(f, "both", (1, ("both", (((), -1), ((0,), 2))), (1, 0, 0, 1))), True)
            self.assertIs(looker(f, "both", (1, ("both", (((), -1), ((0,), 2))), (1, 1, 0, 1))), False)
            self.assertIs(looker(f, "both", (1, ("both", (((), -1), ((0,), 2))), (1, 1, 1, 1))), False)

    def test_a_degree_one_more_and_one_less(self):
        for looker, teller, sound in LOOKERS:
            for f in functions(2):
                for kind in KINDS:
                    degree, poly, weights = teller(f, kind)
                    for other in (degree - 1, degree + 1):
                        for given in (weights, None, (1,) * len(f)):
                            self.assertIs(looker(f, kind, (other, poly, given)), False)

    def test_one_place_otherwise(self):
        cases = [(f, kind) for f in functions(3) for kind in KINDS if len(f) < 16]
        for looker, teller, sound in LOOKERS:
            look_alike_otherwise(self, looker, sound, [(case, teller(*case)) for case in cases])

    def test_chance_polynomials_and_weights(self):
        chance = random.Random(4)
        for looker, teller, sound in LOOKERS:
            told = {True: 0, False: 0}
            for _ in range(3000):
                f = chance.choice(((0, 1), (0, 0, 0, 1), (0, 1, 1, 0), (1, None, 1, 0), (1, 1)))
                terms = ((), (0,)) if len(f) == 2 else ((), (0,), (0, 1), (1,))
                poly = poly_from("odd", {term: chance.choice((0, 0, -2, -1, 1, 2)) for term in terms})
                weights = tuple(chance.randint(0, 1) if value is not None else 0 for value in f)
                degree = max([len(term) for term, number in poly[1]], default=0)
                thing = (degree, poly, chance.choice((weights, None) if degree == 0 else (weights,)))
                shown = looker(f, "odd", thing)
                self.assertIs(shown, sound(f, "odd", thing), (f, thing))
                told[shown] += 1
            self.assertGreater(told[True], 10)
            self.assertGreater(told[False], 1000)

    def test_anything(self):
        for looker, teller, sound in LOOKERS:
            for f in ((1,), (0, 1), (1, None)):
                one = teller(f, "odd")
                for thing in STRANGE:
                    self.assertIs(looker(f, "odd", thing), False)
                    for filled in ((thing,) * 3, (thing,) + one[1:], (one[0], thing, one[2]), one[:2] + (thing,),
                                   one + (thing,), (one[0], ("odd", thing), one[2]), (one[0], ("odd", (thing,)), one[2]),
                                   one[:2] + ((thing,) * len(f),)):
                        self.assertIs(looker(f, "odd", filled), sound(f, "odd", filled), filled)
        self.assertIs(shows_degree((None,), "odd", (False, ("odd", ()), None)), False)


if __name__ == "__main__":
    unittest.main()
