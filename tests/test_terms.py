import itertools
import unittest

from samples import on, subsets, told_twice
from signpoly.terms import terms_to, value_of


class Terms(unittest.TestCase):
    def test_terms_written_out(self):
        self.assertEqual(terms_to(0, 0), ((),))
        self.assertEqual(terms_to(0, 3), ((),))
        self.assertEqual(terms_to(2, 0), ((),))
        self.assertEqual(terms_to(2, 1), ((), (0,), (1,)))
        self.assertEqual(terms_to(2, 2), ((), (0,), (0, 1), (1,)))
        self.assertEqual(terms_to(3, 2), ((), (0,), (0, 1), (0, 2), (1,), (1, 2), (2,)))

    def test_terms_of_each_size(self):
        for n in range(7):
            for size in range(9):
                expected = []
                for length in range(min(n, size) + 1):
                    expected += itertools.combinations(range(n), length)
                self.assertEqual(told_twice(self, terms_to, n, size), tuple(sorted(expected)))

    def test_values_written_out(self):
        self.assertEqual([value_of("both", (0, 1), row) for row in range(4)], [0, 0, 0, 1])
        self.assertEqual([value_of("odd", (0, 1), row) for row in range(4)], [1, -1, -1, 1])
        self.assertEqual([value_of("both", (1,), row) for row in range(4)], [0, 0, 1, 1])
        self.assertEqual([value_of("odd", (1,), row) for row in range(4)], [1, 1, -1, -1])

    def test_the_term_of_no_switches(self):
        for row in range(64):
            self.assertEqual(value_of("both", (), row), 1)
            self.assertEqual(value_of("odd", (), row), 1)

    def test_values_of_each_term_at_each_row(self):
        for term in subsets(6):
            for row in range(64):
                both = 1
                odd = 1
                for k in term:
                    both *= 1 if on(row, k) else 0
                    odd *= -1 if on(row, k) else 1
                self.assertEqual(value_of("both", term, row), both)
                self.assertEqual(value_of("odd", term, row), odd)

    def test_values_are_told_again(self):
        for kind in ("both", "odd"):
            for term in ((), (5,), (0, 3), (0, 1, 2, 3, 4, 5)):
                for row in (0, 1, 42, 63):
                    told_twice(self, value_of, kind, term, row)


if __name__ == "__main__":
    unittest.main()
