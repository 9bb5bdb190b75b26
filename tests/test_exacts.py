import itertools
import unittest

from samples import KINDS, functions_of, poly_value, subsets, term_value, told_twice
from signpoly.exacts import exact_degree, exact_of, sum_by
from signpoly.polys import is_poly
from signpoly.signs import tells, told_by


def full_functions(n):
    """All full functions of few switches, some of many."""
    if n <= 2:
        return list(itertools.product((0, 1), repeat=2 ** n))
    odd = tuple(bin(row).count("1") % 2 for row in range(2 ** n))
    most = tuple(1 if bin(row).count("1") * 2 > n else 0 for row in range(2 ** n))
    return [f for f in functions_of(n) if None not in f] + [odd, most]


class Sums(unittest.TestCase):
    def test_sums_written_out(self):
        self.assertEqual(sum_by((0, 0, 0, 1), "odd", ()), -2)
        self.assertEqual(sum_by((0, 0, 0, 1), "odd", (0,)), -2)
        self.assertEqual(sum_by((0, 0, 0, 1), "odd", (0, 1)), 2)
        self.assertEqual(sum_by((0, 0, 0, 1), "both", (0,)), 0)
        self.assertEqual(sum_by((0, None, 0, 1), "both", (1,)), 0)
        self.assertEqual(sum_by((0, None, 1, 1), "both", (1,)), 2)
        self.assertEqual(sum_by((0, None, 1, 1), "odd", (0,)), -1)
        self.assertEqual(sum_by((None,), "odd", ()), 0)

    def test_sums_by_each_term(self):
        for n in range(7):
            for f in functions_of(n):
                for kind in KINDS:
                    for term in subsets(n)[::3] + subsets(n)[-1:]:
                        expected = sum((1 if f[row] == 1 else -1) * term_value(kind, term, row)
                                       for row in range(2 ** n) if f[row] is not None)
                        self.assertEqual(told_twice(self, sum_by, f, kind, term), expected)


class Exacts(unittest.TestCase):
    def test_exacts_written_out(self):
        self.assertEqual(exact_of((1,), "both"), ("both", (((), 1),)))
        self.assertEqual(exact_of((0,), "odd"), ("odd", (((), -1),)))
        self.assertEqual(exact_of((0, 0, 0, 1), "both"), ("both", (((), -1), ((0, 1), 2))))
        self.assertEqual(exact_of((0, 0, 0, 1), "odd"), ("odd", (((), -2), ((0,), -2), ((0, 1), 2), ((1,), -2))))
        self.assertEqual(exact_of((0, 1, 1, 0), "odd"), ("odd", (((0, 1), -4),)))
        self.assertEqual(exact_of((0, 1, 1, 0), "both"), ("both", (((), -1), ((0,), 2), ((0, 1), -4), ((1,), 2))))

    def test_values_are_the_signs(self):
        for n in range(7):
            for f in full_functions(n):
                for kind in KINDS:
                    poly = told_twice(self, exact_of, f, kind)
                    self.assertIs(is_poly(poly), True)
                    self.assertEqual(poly[0], kind)
                    times = 2 ** n if kind == "odd" else 1
                    for row in range(2 ** n):
                        self.assertEqual(poly_value(poly, row), times if f[row] == 1 else -times)
                    self.assertTrue(all(k < n for term, number in poly[1] for k in term))

    def test_exact_polynomials_tell_their_functions(self):
        for n in range(7):
            for f in full_functions(n):
                for kind in KINDS:
                    poly = exact_of(f, kind)
                    self.assertIs(tells(poly, f), True)
                    self.assertEqual(told_by(poly, n), f)

    def test_numbers_by_odd_are_the_sums(self):
        for n in range(7):
            for f in full_functions(n)[:6]:
                numbers = dict(exact_of(f, "odd")[1])
                for term in subsets(n):
                    self.assertEqual(numbers.get(term, 0), sum_by(f, "odd", term))

    def test_exact_degree(self):
        self.assertEqual(exact_degree((1,)), 0)
        self.assertEqual(exact_degree((0, 0, 0, 0)), 0)
        self.assertEqual(exact_degree((0, 0, 1, 1)), 1)
        self.assertEqual(exact_degree((0, 0, 0, 1)), 2)
        # Not all alike: of degree two though it hangs on three switches.
        self.assertEqual(exact_degree((0, 1, 1, 1, 1, 1, 1, 0)), 2)
        for n in range(7):
            for f in full_functions(n):
                degree = told_twice(self, exact_degree, f)
                for kind in KINDS:
                    poly = exact_of(f, kind)
                    self.assertEqual(degree, max([len(term) for term, number in poly[1]]))


if __name__ == "__main__":
    unittest.main()
