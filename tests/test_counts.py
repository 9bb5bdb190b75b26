import itertools
import unittest

import samples
from samples import KINDS, does_tell, is_sound_bar, is_sound_poly, subsets, terms_below, told_twice
from signpoly.counts import by_counts, changes_of, counts_bar, counts_of, counts_poly
from signpoly.degrees import least_degree


def rows_to(most):
    """All rows of counts of up to so many switches."""
    for n in range(most + 1):
        yield from itertools.product((0, 1), repeat=n + 1)


def changes(row):
    return sum(1 for one, other in zip(row, row[1:]) if one != other)


class Counts(unittest.TestCase):
    def test_by_counts(self):
        for row in rows_to(6):
            f = told_twice(self, by_counts, row)
            self.assertEqual(len(f), 2 ** (len(row) - 1))
            for place, value in enumerate(f):
                self.assertEqual(value, row[bin(place).count("1")])

    def test_by_counts_written_out(self):
        self.assertEqual(by_counts((1,)), (1,))
        self.assertEqual(by_counts((0, 1)), (0, 1))
        self.assertEqual(by_counts((0, 1, 0)), (0, 1, 1, 0))
        self.assertEqual(by_counts((1, 0, 0, 1)), (1, 0, 0, 0, 0, 0, 0, 1))

    def test_counts_of_what_counts_tell(self):
        for row in rows_to(6):
            self.assertEqual(told_twice(self, counts_of, samples.by_counts(len(row) - 1, row)), row)

    def test_counts_of_others(self):
        for n in range(4):
            told = {samples.by_counts(n, row): row for row in itertools.product((0, 1), repeat=n + 1)}
            for f in itertools.product((0, 1), repeat=2 ** n):
                self.assertEqual(told_twice(self, counts_of, f), told.get(f))
        self.assertIsNone(counts_of((0, 1, 0, 0)))

    def test_counts_of_one_row_otherwise(self):
        for row in rows_to(6):
            n = len(row) - 1
            f = samples.by_counts(n, row)
            for place in range(2 ** n):
                other = f[:place] + (1 - f[place],) + f[place + 1:]
                # Just where all or none are on a single row has its count alone.
                alone = place in (0, 2 ** n - 1)
                self.assertIs(counts_of(other) is None, not alone)

    def test_changes_of(self):
        for row in rows_to(6):
            self.assertEqual(told_twice(self, changes_of, row), changes(row))
        self.assertEqual(changes_of((0,)), 0)
        self.assertEqual(changes_of((0, 1, 1, 0, 1)), 3)

    def test_counts_poly(self):
        for row in rows_to(6):
            n = len(row) - 1
            poly = told_twice(self, counts_poly, row)
            self.assertTrue(is_sound_poly("both", subsets(n), poly), poly)
            self.assertEqual(max(len(term) for term, number in poly[1]), changes(row), row)
            self.assertTrue(does_tell(poly, samples.by_counts(n, row)), row)

    def test_counts_bar(self):
        for row in rows_to(6):
            n = len(row) - 1
            bar = told_twice(self, counts_bar, row)
            if changes(row) == 0:
                self.assertIsNone(bar)
                continue
            for kind in KINDS:
                self.assertTrue(is_sound_bar(samples.by_counts(n, row), kind, terms_below(n, changes(row)), bar), row)

    def test_the_least_degree_is_the_number_of_changes(self):
        for row in rows_to(4):
            for kind in KINDS:
                self.assertEqual(least_degree(by_counts(row), kind)[0], changes_of(row))


if __name__ == "__main__":
    unittest.main()
