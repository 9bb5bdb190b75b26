import random
import unittest

from samples import does_tell, is_sound_poly, poly_value, polys_of, subsets, told_twice
from signpoly.degrees import least_degree
from signpoly.exacts import exact_degree
from signpoly.polys import degree_of
from signpoly.putting import put_degree, put_in, put_poly


def full(n, chance):
    return tuple(chance.choice((0, 1)) for _ in range(2 ** n))


def cases(seed, many=40):
    """Outer functions with parts, six switches together at most."""
    chance = random.Random(seed)
    for k in range(7):
        for _ in range(many):
            left = 6
            parts = []
            for place in range(k):
                n = chance.randint(0, min(left, chance.choice((1, 2, 6))))
                left -= n
                parts.append(full(n, chance))
            yield k, full(k, chance), tuple(chance.sample(parts, k))


def row_of_outer(parts, row):
    """The row of outer's switches, as the document says it."""
    told = 0
    for place, part in enumerate(parts):
        row, own = divmod(row, len(part))
        told += part[own] * 2 ** place
    return told


def switches_together(parts):
    return sum(len(part).bit_length() - 1 for part in parts)


class Putting(unittest.TestCase):
    def test_put_in(self):
        for k, outer, parts in cases(1):
            told = told_twice(self, put_in, outer, parts)
            self.assertEqual(told, tuple(outer[row_of_outer(parts, row)] for row in range(2 ** switches_together(parts))))

    def test_put_in_written_out(self):
        self.assertEqual(put_in((1,), ()), (1,))
        self.assertEqual(put_in((0,), ()), (0,))
        self.assertEqual(put_in((0, 1), ((1,),)), (1,))
        self.assertEqual(put_in((0, 1), ((0,),)), (0,))
        self.assertEqual(put_in((0, 1), ((0, 1, 1, 0),)), (0, 1, 1, 0))
        self.assertEqual(put_in((1, 0), ((0, 1, 1, 0),)), (1, 0, 0, 1))
        # Both on, of a switch turned and of a switch.
        self.assertEqual(put_in((0, 0, 0, 1), ((1, 0), (0, 1))), (0, 0, 1, 0))
        self.assertEqual(put_in((0, 0, 0, 1), ((0, 1), (1, 0))), (0, 1, 0, 0))
        # Outer is its switch 0, or its switch 1, alone.
        self.assertEqual(put_in((0, 1, 0, 1), ((0, 1, 1, 0), (0, 1))), (0, 1, 1, 0, 0, 1, 1, 0))
        self.assertEqual(put_in((0, 0, 1, 1), ((0, 1, 1, 0), (0, 1))), (0, 0, 0, 0, 1, 1, 1, 1))
        self.assertEqual(put_in((0, 0, 0, 1), ((1,), (0, 1))), (0, 1))

    def test_put_poly(self):
        for k, outer, parts in cases(2, 12):
            n = switches_together(parts)
            for poly in polys_of("odd", k, 4):
                told = told_twice(self, put_poly, poly, parts)
                self.assertTrue(is_sound_poly("odd", subsets(n), told), told)
                for row in range(2 ** n):
                    self.assertEqual(poly_value(told, row), 2 ** n * poly_value(poly, row_of_outer(parts, row)))

    def test_put_poly_written_out(self):
        unlike = (0, 1, 1, 0)
        self.assertEqual(put_poly(("odd", ()), ()), ("odd", ()))
        self.assertEqual(put_poly(("odd", ()), (unlike, (1,))), ("odd", ()))
        self.assertEqual(put_poly(("odd", (((), -3),)), ()), ("odd", (((), -3),)))
        self.assertEqual(put_poly(("odd", (((), -3),)), (unlike, (0, 1))), ("odd", (((), -24),)))
        self.assertEqual(put_poly(("odd", (((0,), 5),)), (unlike,)), ("odd", (((0, 1), 20),)))
        self.assertEqual(put_poly(("odd", (((0,), 5),)), ((1,),)), ("odd", (((), -5),)))
        self.assertEqual(put_poly(("odd", (((0,), 5),)), ((0,),)), ("odd", (((), 5),)))
        # The parts' values take one another away.
        self.assertEqual(put_poly(("odd", (((0,), 1), ((0, 1), 1))), ((0, 1), (1,))), ("odd", ()))

    def test_it_tells_what_is_put_in(self):
        for k, outer, parts in cases(3, 12):
            if k > 4:
                continue
            poly = least_degree(outer, "odd")[1]
            told = put_poly(poly, parts)
            self.assertTrue(does_tell(told, put_in(outer, parts)), (outer, parts))
            self.assertLessEqual(degree_of(told), put_degree(poly, parts))

    def test_put_degree(self):
        less = 0
        for k, outer, parts in cases(4, 15):
            for poly in polys_of("odd", k, 4):
                degree = told_twice(self, put_degree, poly, parts)
                self.assertEqual(degree, max([sum(exact_degree(parts[i]) for i in term) for term, number in poly[1]],
                                             default=0))
                told = degree_of(put_poly(poly, parts))
                self.assertLessEqual(told, degree)
                less += told < degree
                if len(poly[1]) == 1:
                    self.assertEqual(told, degree)
        self.assertGreater(less, 0)

    def test_put_degree_written_out(self):
        unlike = (0, 1, 1, 0)
        self.assertEqual(put_degree(("odd", ()), ()), 0)
        self.assertEqual(put_degree(("odd", ()), (unlike, unlike)), 0)
        self.assertEqual(put_degree(("odd", (((), 4),)), (unlike, unlike)), 0)
        self.assertEqual(put_degree(("odd", (((0,), 1), ((1,), 1))), (unlike, (0, 1))), 2)
        self.assertEqual(put_degree(("odd", (((0,), 1), ((0, 1), 1))), (unlike, (0, 1))), 3)
        self.assertEqual(put_degree(("odd", (((0, 1), 1),)), ((1,), (0, 0, 1, 1))), 1)
        self.assertEqual(put_degree(("odd", (((0,), 1), ((0, 1), 1))), ((0, 1), (1,))), 1)


if __name__ == "__main__":
    unittest.main()
