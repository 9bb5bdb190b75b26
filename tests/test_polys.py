import unittest

from samples import KINDS, STRANGE, Prickly, nested, poly_value, polys_of, subsets, told_twice, tower
from signpoly.polys import degree_of, is_poly, size_of, value_at

GREAT = 10 ** 18 - 1


class IsPoly(unittest.TestCase):
    def yes(self, thing):
        self.assertIs(told_twice(self, is_poly, thing), True, thing)

    def no(self, thing):
        self.assertIs(is_poly(thing), False)
        self.assertIs(is_poly(thing), False)

    def test_both_kinds_and_other_words(self):
        for kind in KINDS:
            self.yes((kind, ()))
            self.yes((kind, (((), 1),)))
            self.yes((kind, (((), 1), ((0,), -1), ((0, 1), 5), ((1,), 2))))
        for kind in STRANGE + ["Both", "ODD", "even", "", "both ", " odd", "any", b"both", b"odd", ("both",), ["odd"]]:
            if isinstance(kind, str) and kind == "both":
                continue
            self.no((kind, ()))
            self.no((kind, (((), 1),)))

    def test_polys_of_many_forms(self):
        for kind in KINDS:
            for poly in polys_of(kind) + polys_of(kind, 3, 20, 10 ** 18):
                self.yes(poly)

    def test_all_terms(self):
        for kind in KINDS:
            every = tuple((term, 1) for term in sorted(subsets(6)))
            self.assertEqual(len(every), 64)
            self.yes((kind, every))
            self.no((kind, every + (((5,), 1),)))
            self.no((kind, every[::-1]))

    def test_numbers(self):
        for number in (1, -1, GREAT, -GREAT, 10 ** 40, -10 ** 300):
            self.yes(("both", (((0,), number),)))
        for number in STRANGE + [0, True, False, "1", "", None, (1,), [1]]:
            if type(number) is int and number != 0:
                continue
            self.no(("both", (((0,), number),)))
            self.no(("odd", (((), 1), ((0,), number))))

    def test_switches_of_a_term(self):
        for k in range(6):
            self.yes(("odd", (((k,), 1),)))
        for k in (6, -1, 7, True, False, None, "0", "a", (0,), [0], 10 ** 20, Prickly()):
            self.no(("odd", (((k,), 1),)))
            self.no(("odd", (((0, k), 1),)))
            self.no(("odd", (((k, 5), 1),)))
        self.yes(("odd", (((0, 5), 1),)))
        self.yes(("both", (((0, 1, 2, 3, 4, 5), 1),)))
        self.no(("both", (((0, 1, 2, 3, 4, 5, 6), 1),)))

    def test_a_term_that_does_not_rise(self):
        for term in ((1, 0), (0, 0), (5, 5), (0, 2, 1), (0, 1, 1), (3, 3, 4), (5, 4, 3, 2, 1, 0)):
            self.no(("both", ((term, 1),)))
            self.no(("odd", (((), 1), (term, 1))))

    def test_terms_that_do_not_rise(self):
        self.yes(("both", (((0,), 1), ((0, 1), 1), ((1,), 1))))
        self.no(("both", (((0,), 1), ((1,), 1), ((0, 1), 1))))
        self.no(("both", (((0,), 1), ((), 1))))
        self.no(("both", (((), 1), ((1,), 1), ((0,), 1))))
        self.no(("both", (((2,), 1), ((1, 2), 1))))

    def test_a_term_twice(self):
        self.no(("both", (((), 1), ((), 1))))
        self.no(("both", (((0,), 1), ((0,), 2))))
        self.no(("odd", (((), 1), ((0, 1), 1), ((0, 1), -1))))

    def test_lists_in_the_place_of_tuples(self):
        self.no(["both", ()])
        self.no(("both", []))
        self.no(("both", [((), 1)]))
        self.no(("both", ([(), 1],)))
        self.no(("both", (([], 1),)))
        self.no(("both", (([0], 1),)))

    def test_parts_of_one_or_three_things(self):
        self.no(("both",))
        self.no(("both", (), ()))
        self.no(("both", (((0,),),)))
        self.no(("both", (((0,), 1, 1),)))
        self.no(("both", ((),)))
        self.no(("both", ((0,), 1)))
        self.no(("both", ((1, (0,)),)))
        self.no(((), "both"))

    def test_things_of_other_kinds(self):
        for thing in STRANGE:
            self.no(thing)
            self.no((thing,))
            self.no(("both", (thing,)))
            self.no(("both", (((), 1), thing)))
            if not (isinstance(thing, tuple) and len(thing) == 0):
                self.no(("both", thing))
            if not (isinstance(thing, tuple) and all(type(k) is int for k in thing)):
                self.no(("odd", ((thing, 1),)))

    def test_things_nested_forty_deep(self):
        self.no(("both", tower(39)))
        self.no(("both", ((tower(37), 1),)))
        self.no(("both", (((), tower(37)),)))
        self.no(nested(("both", ()), lambda inner: ("both", (inner,)), 19))
        self.no(nested((), lambda inner: (inner, 1), 40))


class Values(unittest.TestCase):
    def test_values_written_out(self):
        poly = ("both", (((), 3), ((0, 1), -2), ((2,), 1)))
        self.assertEqual([value_at(poly, row) for row in range(8)], [3, 3, 3, 1, 4, 4, 4, 2])
        poly = ("odd", (((), 3), ((0, 1), -2), ((2,), 1)))
        self.assertEqual([value_at(poly, row) for row in range(8)], [2, 6, 6, 2, 0, 4, 4, 0])

    def test_values_at_all_rows(self):
        for kind in KINDS:
            for poly in polys_of(kind) + polys_of(kind, 6, 4, GREAT) + polys_of(kind, 2, 6):
                for row in range(64):
                    self.assertEqual(value_at(poly, row), poly_value(poly, row))
                told_twice(self, value_at, poly, 63)

    def test_degree_and_size_written_out(self):
        for kind in KINDS:
            self.assertEqual(degree_of((kind, ())), 0)
            self.assertEqual(size_of((kind, ())), 0)
            self.assertEqual(value_at((kind, ()), 5), 0)
            self.assertEqual(degree_of((kind, (((), -7),))), 0)
            self.assertEqual(size_of((kind, (((), -7),))), 7)
            poly = (kind, (((0, 1, 4), -GREAT), ((1,), 1), ((5,), GREAT)))
            self.assertEqual(degree_of(poly), 3)
            self.assertEqual(size_of(poly), 2 * GREAT + 1)

    def test_degree_and_size(self):
        for kind in KINDS:
            for poly in polys_of(kind) + polys_of(kind, 4, 10, GREAT):
                degree = told_twice(self, degree_of, poly)
                size = told_twice(self, size_of, poly)
                self.assertEqual(degree, max([0] + [len(term) for term, number in poly[1]]))
                self.assertEqual(size, sum(number if number > 0 else -number for term, number in poly[1]))


if __name__ == "__main__":
    unittest.main()
