import random
import unittest

from samples import (KINDS, does_tell, functions_by_number, functions_of, is_sound_bar, is_sound_poly, poly_value,
                     polys_of, subsets, terms_below, told_in, told_twice)
from signpoly.degrees import least_degree, weak_degree
from signpoly.reckoning import often
from signpoly.together import unlike, unlike_poly, unlike_weights


def pairs(most, seed=0):
    """Pairs of functions with at most so many switches together."""
    for n in range(most + 1):
        for m in range(most + 1 - n):
            for f in functions_of(n, seed):
                for g in functions_of(m, seed + 1):
                    yield n, m, f, g


class Unlike(unittest.TestCase):
    def test_each_row(self):
        for n, m, f, g in pairs(6):
            told = told_twice(self, unlike, f, g)
            self.assertEqual(len(told), 2 ** (n + m))
            for row, value in enumerate(told):
                one, other = f[row % 2 ** n], g[row // 2 ** n]
                if one is None or other is None:
                    self.assertIsNone(value)
                else:
                    self.assertEqual(value, 1 if one != other else 0)

    def test_written_out(self):
        self.assertEqual(unlike((0,), (0,)), (0,))
        self.assertEqual(unlike((1,), (0,)), (1,))
        self.assertEqual(unlike((None,), (0,)), (None,))
        self.assertEqual(unlike((None,), (None,)), (None,))
        self.assertEqual(unlike((0, 1), (0, 1)), (0, 1, 1, 0))
        self.assertEqual(unlike((0, None), (0, 1)), (0, None, 1, None))
        self.assertEqual(unlike((0, 1), (0, None)), (0, 1, None, None))
        self.assertEqual(unlike((1,), (0, 1, None, 1)), (1, 0, None, 0))
        self.assertEqual(unlike((0, 1, None, 1), (1,)), (1, 0, None, 0))


class UnlikePoly(unittest.TestCase):
    def test_each_row(self):
        for kind in KINDS:
            for n in range(7):
                for one in polys_of(kind, n, 3):
                    for other in polys_of(kind, 6 - n, 3):
                        told = told_twice(self, unlike_poly, n, one, other)
                        self.assertTrue(is_sound_poly(kind, subsets(6), told))
                        for row in range(64):
                            value = poly_value(one, row % 2 ** n) * poly_value(other, row // 2 ** n)
                            self.assertEqual(poly_value(told, row), -value)

    def test_written_out(self):
        one = ("both", (((), -1), ((0,), 2)))
        self.assertEqual(unlike_poly(1, one, one), ("both", (((), -1), ((0,), 2), ((0, 1), -4), ((1,), 2))))
        self.assertEqual(unlike_poly(3, one, one), ("both", (((), -1), ((0,), 2), ((0, 3), -4), ((3,), 2))))
        self.assertEqual(unlike_poly(0, ("odd", (((), 3),)), ("odd", (((0,), 5),))), ("odd", (((0,), -15),)))
        for kind in KINDS:
            for number in range(3):
                self.assertEqual(unlike_poly(number, (kind, ()), (kind, ((((0,), 7),)))), (kind, ()))
                self.assertEqual(unlike_poly(number, (kind, (((), 7),)), (kind, ())), (kind, ()))
                self.assertEqual(unlike_poly(number, (kind, ()), (kind, ())), (kind, ()))

    def test_it_tells_the_unlike(self):
        for n, m, f, g in pairs(4, 5):
            for kind in KINDS:
                poly = unlike_poly(n, least_degree(f, kind)[1], least_degree(g, kind)[1])
                self.assertTrue(does_tell(poly, unlike(f, g)), (f, g))
                if told_in(f) and told_in(g):
                    self.assertFalse(does_tell(often(poly, -1), unlike(f, g)), (f, g))


class UnlikeWeights(unittest.TestCase):
    def test_each_row(self):
        chance = random.Random(1)
        for n in range(7):
            for m in range(7 - n):
                one = tuple(chance.choice((0, 1, 5, 10 ** 20)) for _ in range(2 ** n))
                other = tuple(chance.choice((0, 1, 7, 10 ** 20)) for _ in range(2 ** m))
                told = told_twice(self, unlike_weights, one, other)
                self.assertEqual(len(told), 2 ** (n + m))
                for row, weight in enumerate(told):
                    self.assertEqual(weight, one[row % 2 ** n] * other[row // 2 ** n])
        self.assertEqual(unlike_weights((2, 3), (5, 7)), (10, 15, 14, 21))
        self.assertEqual(unlike_weights((2,), (5, 7)), (10, 14))


class DegreesTogether(unittest.TestCase):
    def check(self, n, m, f, g, kind):
        both = unlike(f, g)
        one, other, told = [least_degree(h, kind) for h in (f, g, both)]
        self.assertEqual(told[0], one[0] + other[0], (f, g))
        poly = unlike_poly(n, one[1], other[1])
        self.assertTrue(is_sound_poly(kind, [term for term in subsets(n + m) if len(term) <= told[0]], poly))
        self.assertTrue(does_tell(poly, both))
        first, second, weak = [weak_degree(h, kind) for h in (f, g, both)]
        self.assertEqual(weak[0], first[0] + second[0], (f, g))
        # The product's weights over each row that is told: those of degree 0 are 1.
        ones = [tuple(0 if value is None else 1 for value in h) for h in (f, g)]
        weights = unlike_weights(first[2] or ones[0], second[2] or ones[1])
        if weak[0]:
            self.assertTrue(is_sound_bar(both, kind, terms_below(n + m, weak[0]), weights), (f, g))
            self.assertTrue(all(weights[row] for row, sign in told_in(both)))

    def test_few_switches(self):
        for n in (0, 1):
            for m in (0, 1):
                for f in functions_by_number(n):
                    for g in functions_by_number(m):
                        if told_in(f) and told_in(g):
                            for kind in KINDS:
                                self.check(n, m, f, g, kind)

    def test_more_switches(self):
        for n, m, f, g in pairs(3, 7):
            if told_in(f) and told_in(g) and n + m == 3:
                self.check(n, m, f, g, "odd")
        for f, g in (((0, 1, 1, 0), (0, 0, 0, 1)), ((0, 1, 1, 1), (1, None, 0, 1)), ((0, 1, 1, 0), (1, 0, 0, 1))):
            self.check(2, 2, f, g, "both")


if __name__ == "__main__":
    unittest.main()
