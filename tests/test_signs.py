import unittest

from samples import KINDS, functions_of, poly_value, polys_of, told_twice
from signpoly.errors import OnNought
from signpoly.functions import is_function
from signpoly.reckoning import other_kind
from signpoly.signs import noughts_of, signs_of, tells, told_by


def needed(poly):
    """How many switches the polynomial needs."""
    return max([k for term, number in poly[1] for k in term], default=-1) + 1


def some_polys():
    for kind in KINDS:
        for switches in range(7):
            yield from polys_of(kind, switches, 4, 3)
        yield from polys_of(kind, 3, 4, 10 ** 18)


class Signs(unittest.TestCase):
    def test_signs_written_out(self):
        poly = ("both", (((), -1), ((0,), 1), ((1,), 1)))
        self.assertEqual(signs_of(poly, 2), (-1, 0, 0, 1))
        self.assertEqual(signs_of(poly, 3), (-1, 0, 0, 1, -1, 0, 0, 1))
        self.assertEqual(noughts_of(poly, 2), (1, 2))
        self.assertEqual(noughts_of(poly, 3), (1, 2, 5, 6))
        self.assertEqual(signs_of(("odd", ()), 0), (0,))
        self.assertEqual(noughts_of(("odd", ()), 1), (0, 1))
        self.assertEqual(signs_of(("odd", (((), -5),)), 0), (-1,))
        self.assertEqual(noughts_of(("odd", (((), -5),)), 2), ())

    def test_signs_of_and_noughts_of(self):
        for poly in some_polys():
            for n in range(needed(poly), min(needed(poly) + 3, 7)):
                values = [poly_value(poly, row) for row in range(2 ** n)]
                signs = told_twice(self, signs_of, poly, n)
                self.assertEqual(signs, tuple((value > 0) - (value < 0) for value in values))
                noughts = told_twice(self, noughts_of, poly, n)
                self.assertEqual(noughts, tuple(row for row, value in enumerate(values) if value == 0))

    def test_told_by(self):
        self.assertEqual(told_by(("both", (((), -1), ((0, 1), 2))), 2), (0, 0, 0, 1))
        self.assertEqual(told_by(("odd", (((0, 1), -1),)), 2), (0, 1, 1, 0))
        self.assertEqual(told_by(("odd", (((), 1),)), 0), (1,))
        for poly in some_polys():
            for n in range(needed(poly), min(needed(poly) + 2, 7)):
                values = [poly_value(poly, row) for row in range(2 ** n)]
                if 0 in values:
                    with self.assertRaises(OnNought) as caught:
                        told_by(poly, n)
                    self.assertEqual(caught.exception.row, values.index(0))
                else:
                    made = told_twice(self, told_by, poly, n)
                    self.assertIs(is_function(made), True)
                    self.assertEqual(made, tuple(1 if value > 0 else 0 for value in values))

    def test_told_by_tells_the_first_row_at_nought(self):
        at_last = ("both", (((), 1), ((0, 1), -1)))
        for poly, n, row in ((("both", ()), 0, 0), (("odd", ()), 3, 0), (at_last, 2, 3), (at_last, 4, 3),
                             (("both", (((), -1), ((0,), 1), ((1,), 1))), 3, 1)):
            with self.assertRaises(OnNought) as caught:
                told_by(poly, n)
            self.assertEqual(caught.exception.row, row)
            self.assertIs(type(caught.exception.row), int)


class Tells(unittest.TestCase):
    def test_tells_written_out(self):
        both_on = ("both", (((), -1), ((0, 1), 2)))
        self.assertIs(tells(both_on, (0, 0, 0, 1)), True)
        self.assertIs(tells(both_on, (0, None, 0, 1)), True)
        self.assertIs(tells(both_on, (None, None, None, None)), True)
        self.assertIs(tells(both_on, (1, 0, 0, 1)), False)
        self.assertIs(tells(both_on, (0, 0, 0, 0)), False)
        on_nought = ("both", (((), -1), ((0,), 1), ((1,), 1)))
        self.assertIs(tells(on_nought, (0, None, None, 1)), True)
        self.assertIs(tells(on_nought, (0, None, 0, 1)), False)
        self.assertIs(tells(on_nought, (0, 1, None, 1)), False)
        self.assertIs(tells(("odd", ()), (None,)), True)
        self.assertIs(tells(("odd", ()), (0,)), False)
        self.assertIs(tells(("odd", ()), (1,)), False)

    def test_tells_by_the_values(self):
        for poly in some_polys():
            n = needed(poly)
            for f in functions_of(n):
                expected = all((poly_value(poly, row) > 0) if f[row] == 1 else (poly_value(poly, row) < 0)
                               for row in range(2 ** n) if f[row] is not None)
                self.assertIs(told_twice(self, tells, poly, f), expected)

    def test_one_sign_wrong_or_a_told_row_at_nought(self):
        for poly in some_polys():
            n = needed(poly)
            values = [poly_value(poly, row) for row in range(2 ** n)]
            right = tuple(None if value == 0 else (1 if value > 0 else 0) for value in values)
            self.assertIs(tells(poly, right), True)
            self.assertIs(tells(other_kind(poly), right), True)
            for row in range(2 ** n):
                for wrong in ((0, 1) if values[row] == 0 else (1 - right[row],)):
                    self.assertIs(tells(poly, right[:row] + (wrong,) + right[row + 1:]), False)
                self.assertIs(tells(poly, right[:row] + (None,) + right[row + 1:]), True)


if __name__ == "__main__":
    unittest.main()
