import itertools
import random
import unittest

from samples import KINDS, choose, does_tell, functions_by_number, some_terms, subsets, told_twice
from signpoly.numbers import how_many, listed
from signpoly.splits import solved
from signpoly.terms import terms_to


def told_functions(n, kind, terms):
    """All full functions of n switches that are told, one after the other asked for."""
    return sorted(f for f in functions_by_number(n, (0, 1)) if solved(f, kind, terms)[0] == "poly")


def all_some_terms(n):
    """All choices of terms of n switches."""
    every = sorted(subsets(n))
    return [terms for many in range(len(every) + 1) for terms in itertools.combinations(every, many)]


class Numbers(unittest.TestCase):
    def test_to_two_switches(self):
        for n in range(3):
            for terms in all_some_terms(n):
                for kind in KINDS:
                    told = told_twice(self, listed, n, kind, terms)
                    self.assertEqual(list(told), told_functions(n, kind, terms))
                    self.assertEqual(told_twice(self, how_many, n, kind, terms), len(told))
                    for f in told:
                        answer = solved(f, kind, terms)
                        self.assertEqual(answer[0], "poly")
                        self.assertTrue(does_tell(answer[1], f))
                        self.assertTrue(all(term in terms for term, number in answer[1][1]))

    def test_cuts_of_a_cube(self):
        for kind in KINDS:
            self.assertEqual(told_twice(self, how_many, 3, kind, terms_to(3, 1)), 104)
            self.assertEqual([how_many(n, kind, terms_to(n, 1)) for n in range(3)], [2, 4, 14])

    def test_three_switches(self):
        chance = random.Random(1)
        for kind in KINDS:
            self.assertEqual(how_many(3, kind, ()), 0)
            self.assertEqual(how_many(3, kind, ((),)), 2)
            self.assertEqual(how_many(3, kind, terms_to(3, 2)), 254)
            self.assertEqual(how_many(3, kind, terms_to(3, 3)), 256)
            for terms in choose(chance, some_terms(3, chance), 4):
                self.assertEqual(how_many(3, kind, terms), len(told_functions(3, kind, terms)), terms)

    def test_written_out(self):
        self.assertEqual(listed(0, "both", ()), ())
        self.assertEqual(listed(0, "odd", ((),)), ((0,), (1,)))
        self.assertEqual(listed(1, "both", ((),)), ((0, 0), (1, 1)))
        self.assertEqual(listed(1, "both", ((0,),)), ())
        self.assertEqual(listed(1, "odd", ((0,),)), ((0, 1), (1, 0)))
        self.assertEqual(listed(1, "both", ((), (0,))), ((0, 0), (0, 1), (1, 0), (1, 1)))
        self.assertEqual(listed(2, "odd", ((0, 1),)), ((0, 1, 1, 0), (1, 0, 0, 1)))
        every = tuple(itertools.product((0, 1), repeat=4))
        self.assertEqual(listed(2, "both", terms_to(2, 2)), every)
        self.assertEqual(listed(2, "odd", terms_to(2, 1)), tuple(f for f in every if f not in ((0, 1, 1, 0), (1, 0, 0, 1))))


if __name__ == "__main__":
    unittest.main()
