import random
import unittest

from samples import (KINDS, STRANGE, Prickly, choose, full_functions, is_sound_alone, look_alike_otherwise, some_terms,
                     told_twice, tower)
from signpoly.reckoning import often
from signpoly.sumlooks import shows_alone
from signpoly.sums import alone
from signpoly.terms import terms_to

UNLIKE = (0, 1, 1, 0)
BOTH_ON = (0, 0, 0, 1)
TO_ONE = terms_to(2, 1)


def cases(most, many, seed):
    chance = random.Random(seed)
    for n in range(most + 1):
        for f in full_functions(n, seed):
            for kind in KINDS:
                for terms in choose(chance, some_terms(n, chance), many):
                    yield f, kind, terms


def times(numbers, number):
    return tuple(number * one for one in numbers)


class SumLooks(unittest.TestCase):
    def shows(self, f, kind, terms, thing):
        self.assertIs(shows_alone(f, kind, terms, thing), True, (f, kind, terms, thing))

    def refuses(self, f, kind, terms, thing):
        self.assertIs(shows_alone(f, kind, terms, thing), False, (f, kind, terms, thing))

    def test_what_is_told(self):
        for f, kind, terms in cases(4, 3, 1):
            told = alone(f, kind, terms)
            self.assertIs(told_twice(self, shows_alone, f, kind, terms, told), True)
            self.refuses(f, kind, terms, ("other",) + told[1:] if told[0] == "alone" else ("alone",) + told[1:])
            for number in (1, 2, 10 ** 30):
                if told[0] == "alone":
                    self.shows(f, kind, terms, ("alone", often(told[1], number)))
                    self.refuses(f, kind, terms, ("alone", often(told[1], -number)))
                    self.refuses(f, "both" if kind == "odd" else "odd", terms, ("alone", often(told[1], number)))
                    continue
                numbers, part = told[1:]
                self.shows(f, kind, terms, ("other", times(numbers, number), number * part))
                # Put together with the signs it shares the sums too; the signs alone are none other.
                signs = [number * (2 * value - 1) for value in f]
                mixed = tuple(one + sign for one, sign in zip(numbers, signs))
                self.shows(f, kind, terms, ("other", mixed, part + number))
                self.refuses(f, kind, terms, ("other", tuple(signs), number))
                self.refuses(f, kind, terms, ("other", times(numbers, -number), -number * part))
                self.refuses(f, kind, terms, ("other", (0,) * len(f), 0))

    def test_each_clause_of_other(self):
        self.shows(UNLIKE, "both", TO_ONE, ("other", (0, 0, 0, 0), 1))
        self.shows(UNLIKE, "both", TO_ONE, ("other", (1, -1, -1, 1), 1))
        self.shows(UNLIKE, "both", TO_ONE, ("other", (-1, 1, 1, -1), 2))
        self.shows(UNLIKE, "both", TO_ONE, ("other", (2, -2, -2, 2), 2))
        # The signs themselves; beyond the part on one side and on the other.
        self.refuses(UNLIKE, "both", TO_ONE, ("other", (-1, 1, 1, -1), 1))
        self.refuses(UNLIKE, "both", TO_ONE, ("other", (-2, 2, 2, -2), 2))
        self.refuses(UNLIKE, "both", TO_ONE, ("other", (2, -2, -2, 2), 1))
        self.refuses(UNLIKE, "both", TO_ONE, ("other", (-3, 3, 3, -3), 2))
        self.shows((1,), "both", (), ("other", (-1,), 1))
        self.refuses((1,), "both", (), ("other", (-2,), 1))
        self.refuses((1,), "both", (), ("other", (2,), 1))
        self.refuses((1,), "both", (), ("other", (1,), 1))
        self.shows((1,), "both", (), ("other", (1,), 2))
        # Part below 1, and a truth.
        for part in (0, -1, True, None, "1", (1,)):
            self.refuses(UNLIKE, "both", TO_ONE, ("other", (0, 0, 0, 0), part))
        # A sum that isn't shared.
        for numbers in ((0, 0, 0, 1), (0, 1, 0, 0), (1, -1, 0, 0), (1, 1, 1, 1), (1, 0, 0, 0)):
            self.refuses(UNLIKE, "both", TO_ONE, ("other", numbers, 1))
        self.shows(UNLIKE, "both", ((),), ("other", (1, -1, 0, 0), 1))
        self.shows(UNLIKE, "both", ((0,),), ("other", (1, -1, 0, 1), 1))
        # Where the sums aren't 0 they are taken part times.
        self.shows(BOTH_ON, "odd", ((),), ("other", (-2, -2, 0, 0), 2))
        self.refuses(BOTH_ON, "odd", ((),), ("other", (-1, -1, 0, 0), 2))
        self.refuses(BOTH_ON, "odd", ((),), ("other", (1, 1, 1, 1), 2))
        self.shows(BOTH_ON, "odd", ((),), ("other", (-1, -1, -1, -1), 2))
        self.shows(BOTH_ON, "odd", ((),), ("other", (-2, -1, -1, 0), 2))
        for numbers in ((0, 0, 0), (0, 0, 0, 0, 0), [0, 0, 0, 0], (0, 0, 0, False), (), None, 0, (0, 0, 0, None)):
            self.refuses(UNLIKE, "both", TO_ONE, ("other", numbers, 1))
        for thing in (("other", (0, 0, 0, 0)), ("other", (0, 0, 0, 0), 1, 1), ["other", (0, 0, 0, 0), 1], ("other", 1),
                      ("others", (0, 0, 0, 0), 1), ("alone", (0, 0, 0, 0), 1), (None, (0, 0, 0, 0), 1), "other"):
            self.refuses(UNLIKE, "both", TO_ONE, thing)

    def test_each_clause_of_alone(self):
        one = ("both", (((), -3), ((0,), 2), ((1,), 2)))
        self.shows(BOTH_ON, "both", TO_ONE, ("alone", one))
        self.shows(BOTH_ON, "both", terms_to(2, 2), ("alone", one))
        self.refuses(BOTH_ON, "both", ((), (0,)), ("alone", one))
        self.refuses(BOTH_ON, "odd", TO_ONE, ("alone", one))
        self.refuses(UNLIKE, "both", TO_ONE, ("alone", one))
        for poly in (("both", (((), -2), ((0,), 2), ((1,), 1))), ("both", one[1][::-1]), ("both", ()), None, list(one),
                     ("both", list(one[1])), ("both", (((), -1), ((0, 1), 2))), ("both", one[1] + (((2,), 1),))):
            self.refuses(BOTH_ON, "both", TO_ONE, ("alone", poly))
        for thing in (("alone",), ("alone", one, 1), ["alone", one], ("alones", one), (None, one), (one,), one):
            self.refuses(BOTH_ON, "both", TO_ONE, thing)

    def test_one_place_otherwise(self):
        papers = [(case, alone(*case)) for case in cases(2, 2, 3)]
        look_alike_otherwise(self, shows_alone, is_sound_alone, papers)

    def test_anything(self):
        for f, kind, terms in (((1,), "odd", ((),)), ((1, 0), "both", ()), ((0, 1), "odd", ((), (0,))), (UNLIKE, "odd", TO_ONE)):
            one = alone(f, kind, terms)
            for thing in STRANGE + [(Prickly(),) * len(f), tower(3)]:
                self.refuses(f, kind, terms, thing)
                for filled in ((thing,) * 2, (thing,) * 3, (thing,) + one[1:], one[:1] + (thing,) + one[2:], one + (thing,),
                               one[:-1] + (thing,), ("alone", thing), ("other", thing, 1), ("other", (0,) * len(f), thing),
                               ("alone", (kind, thing)), ("alone", (kind, (thing,))), ("other", (thing,) * len(f), 1)):
                    shown = shows_alone(f, kind, terms, filled)
                    self.assertIs(shown, is_sound_alone(f, kind, terms, filled), filled)


if __name__ == "__main__":
    unittest.main()
