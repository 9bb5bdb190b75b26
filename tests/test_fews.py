import itertools
import random
import unittest

from samples import (KINDS, by_counts, functions_by_number, functions_of, is_sound_fewest, is_sound_poly, subsets, told_in,
                     told_twice)
from signpoly.fews import fewest
from signpoly.splits import solved


def functions():
    """Functions of 0 to 3 switches, full, partly told, nothing told."""
    for n in range(3):
        yield from functions_by_number(n)
    for seed in range(4):
        yield from functions_of(3, seed)
    yield by_counts(3, (0, 1, 0, 1))
    yield by_counts(3, (0, 0, 1, 1))


class Fews(unittest.TestCase):
    def test_each_clause(self):
        found = []
        for f in functions():
            for kind in KINDS:
                told = told_twice(self, fewest, f, kind)
                self.assertTrue(is_sound_fewest(f, kind, told), (f, kind, told))
                found.append(len(told[0][1]))
        for many in range(5):
            self.assertIn(many, found)

    def test_against_going_through_all_sets_of_terms(self):
        chance = random.Random(1)
        for n in range(4):
            every = sorted(subsets(n))
            for f in functions_of(n, 9):
                kind = chance.choice(KINDS)
                poly, bars = fewest(f, kind)
                many = len(poly[1])
                for fewer in range(many):
                    for terms in itertools.combinations(every, fewer):
                        self.assertEqual(solved(f, kind, terms)[0], "bar")
                terms = tuple(term for term, number in poly[1])
                self.assertEqual(solved(f, kind, terms)[0], "poly")
                self.assertTrue(is_sound_poly(kind, terms, poly))

    def test_nothing_told(self):
        for n in range(4):
            for kind in KINDS:
                self.assertEqual(fewest((None,) * 2 ** n, kind), ((kind, ()), ()))

    def test_written_out(self):
        for kind in KINDS:
            poly, bars = fewest((1,), kind)
            self.assertEqual((poly[1][0][0], len(poly[1])), ((), 1))
            self.assertEqual(len(bars), 1)
            self.assertEqual(bars[0][0], ())
        for n in (1, 2, 3):
            poly, bars = fewest(by_counts(n, (0, 1) * 2), "odd")
            self.assertEqual([term for term, number in poly[1]], [tuple(range(n))])
            self.assertLess(poly[1][0][1], 0)
            self.assertEqual([terms for terms, bar in bars], [()])
        poly, bars = fewest((0, 0, 0, 1), "both")
        self.assertEqual([term for term, number in poly[1]], [(), (0, 1)])
        self.assertEqual([terms for terms, bar in bars], [((),), ((0,),), ((0, 1),), ((1,),)])
        poly, bars = fewest((0, 0, 0, 1), "odd")
        self.assertEqual(len(poly[1]), 3)
        self.assertEqual([terms for terms, bar in bars],
                         [((), (0,)), ((), (0, 1)), ((), (1,)), ((0,), (0, 1)), ((0,), (1,)), ((0, 1), (1,))])

    def test_how_many_bars(self):
        for f in functions_of(3, 6):
            poly, bars = fewest(f, "both")
            many = len(poly[1])
            asked = list(itertools.combinations(sorted(subsets(3)), many - 1)) if told_in(f) else []
            self.assertEqual([terms for terms, bar in bars], asked)


if __name__ == "__main__":
    unittest.main()
