import math
import unittest

from samples import KINDS, poly_value, polys_of, told_twice
from signpoly.polys import degree_of, is_poly
from signpoly.reckoning import added, moved, often, other_kind, product_of, shrunk

GREAT = 10 ** 18 - 1


def all_polys(kind):
    return polys_of(kind) + polys_of(kind, 3, 5) + polys_of(kind, 6, 2, GREAT)


class Reckoning(unittest.TestCase):
    def check(self, made, kind, expected):
        """The told thing is a polynomial of the kind with the expected value at each row."""
        self.assertIs(is_poly(made), True, made)
        self.assertEqual(made[0], kind)
        for row in range(64):
            self.assertEqual(poly_value(made, row), expected(row))

    def test_added(self):
        for kind in KINDS:
            polys = all_polys(kind)
            for one in polys:
                for other in polys[:9]:
                    made = told_twice(self, added, one, other)
                    self.check(made, kind, lambda row: poly_value(one, row) + poly_value(other, row))

    def test_sums_whose_parts_go_away(self):
        for kind in KINDS:
            one = (kind, (((), 1), ((0,), 2), ((0, 3), -4), ((5,), 1)))
            self.assertEqual(added(one, (kind, ())), one)
            self.assertEqual(added((kind, ()), one), one)
            self.assertEqual(added((kind, ()), (kind, ())), (kind, ()))
            self.assertEqual(added(one, often(one, -1)), (kind, ()))
            self.assertEqual(added(one, (kind, (((0,), -2), ((0, 3), 3)))), (kind, (((), 1), ((0, 3), -1), ((5,), 1))))

    def test_product_of(self):
        for kind in KINDS:
            polys = all_polys(kind)
            for place, one in enumerate(polys):
                for other in polys[place % 2::2]:
                    made = product_of(one, other)
                    self.check(made, kind, lambda row: poly_value(one, row) * poly_value(other, row))
            told_twice(self, product_of, polys[4], polys[5])

    def test_products_whose_parts_go_away(self):
        for kind in KINDS:
            self.assertEqual(product_of((kind, ()), (kind, (((0,), 1),))), (kind, ()))
            self.assertEqual(product_of((kind, (((0,), 1),)), (kind, ())), (kind, ()))
        # A switch times one less the switch.
        self.assertEqual(product_of(("both", (((0,), 1),)), ("both", (((), 1), ((0,), -1)))), ("both", ()))
        self.assertEqual(product_of(("both", (((0, 1), 2),)), ("both", (((1, 2), 3),))), ("both", (((0, 1, 2), 6),)))
        self.assertEqual(product_of(("odd", (((0, 1), 2),)), ("odd", (((1, 2), 3),))), ("odd", (((0, 2), 6),)))
        self.assertEqual(product_of(("odd", (((), 1), ((4,), 1))), ("odd", (((), 1), ((4,), -1)))), ("odd", ()))
        self.assertEqual(product_of(("odd", (((0,), 1), ((1,), 1))), ("odd", (((0,), 1), ((1,), -1)))), ("odd", ()))

    def test_often(self):
        for kind in KINDS:
            for poly in all_polys(kind):
                for number in (0, 1, -1, 2, -7, GREAT):
                    made = told_twice(self, often, poly, number)
                    self.check(made, kind, lambda row: number * poly_value(poly, row))
                self.assertEqual(often(poly, 0), (kind, ()))
                self.assertEqual(often(poly, 1), poly)

    def test_shrunk(self):
        for kind in KINDS:
            self.assertEqual(shrunk((kind, ())), (kind, ()))
            self.assertEqual(shrunk((kind, (((), -6),))), (kind, (((), -1),)))
            self.assertEqual(shrunk((kind, (((), -6), ((0,), 15)))), (kind, (((), -2), ((0,), 5))))
            self.assertEqual(shrunk((kind, (((), 8), ((0,), -4), ((1,), 6)))), (kind, (((), 4), ((0,), -2), ((1,), 3))))
            self.assertEqual(shrunk((kind, (((), 5), ((0,), 7)))), (kind, (((), 5), ((0,), 7))))
            for poly in all_polys(kind):
                for number in (1, 6, -4, GREAT):
                    larger = often(poly, number)
                    whole = math.gcd(*[amount for term, amount in larger[1]])
                    made = told_twice(self, shrunk, larger)
                    self.check(made, kind, lambda row: poly_value(larger, row) // whole if whole else 0)
                    self.assertEqual(often(made, whole) if whole else made, larger)
                    self.assertIn(math.gcd(*[amount for term, amount in made[1]]), (0, 1))

    def test_moved(self):
        self.assertEqual(moved(("odd", (((), 2), ((0, 2), -1), ((1,), 4))), 3), ("odd", (((), 2), ((3, 5), -1), ((4,), 4))))
        for kind in KINDS:
            for poly in polys_of(kind, 6) + polys_of(kind, 3, 9, GREAT) + polys_of(kind, 1):
                last = max([k for term, number in poly[1] for k in term], default=-1)
                for by in range(6 - last if last >= 0 else 6):
                    made = told_twice(self, moved, poly, by)
                    self.check(made, kind, lambda row: poly_value(poly, row // 2 ** by))
                self.assertEqual(moved(poly, 0), poly)

    def test_other_kind_written_out(self):
        self.assertEqual(other_kind(("both", ())), ("odd", ()))
        self.assertEqual(other_kind(("odd", ())), ("both", ()))
        self.assertEqual(other_kind(("both", (((), 4),))), ("odd", (((), 4),)))
        self.assertEqual(other_kind(("both", (((0,), 1),))), ("odd", (((), 1), ((0,), -1))))
        self.assertEqual(other_kind(("odd", (((0,), 1),))), ("both", (((), 1), ((0,), -2))))
        self.assertEqual(other_kind(("odd", (((), 1), ((0,), -1)))), ("both", (((0,), 2),)))

    def test_other_kind_by_values(self):
        for poly in all_polys("odd"):
            made = told_twice(self, other_kind, poly)
            self.check(made, "both", lambda row: poly_value(poly, row))
        for poly in all_polys("both"):
            made = told_twice(self, other_kind, poly)
            self.check(made, "odd", lambda row: 2 ** degree_of(poly) * poly_value(poly, row))

    def test_other_kind_there_and_back(self):
        for kind in KINDS:
            for poly in all_polys(kind):
                self.assertEqual(other_kind(other_kind(poly)), often(poly, 2 ** degree_of(poly)))
                self.assertEqual(degree_of(other_kind(poly)), degree_of(poly))


if __name__ == "__main__":
    unittest.main()
