import random
import unittest

from samples import (KINDS, choose, does_tell, functions_of, is_sound_bar, is_sound_poly, is_sound_split, some_terms,
                     subsets, told_in, told_twice)
from signpoly.moves import opposite, turned
from signpoly.splits import solved, split_of, stands_on
from signpoly.terms import terms_to


def cases(seed, many=4):
    """Functions of 0 to 4 switches, with kinds and terms."""
    chance = random.Random(seed)
    for n in range(5):
        for round_number in range(2):
            for f in functions_of(n, seed + round_number):
                for kind in KINDS:
                    for terms in choose(chance, some_terms(n, chance), many):
                        yield f, kind, terms


class Splits(unittest.TestCase):
    def test_each_clause(self):
        stood = []
        for f, kind, terms in cases(1):
            told = told_twice(self, split_of, f, kind, terms)
            self.assertTrue(is_sound_split(f, kind, terms, told), (f, kind, terms, told))
            rows = told_twice(self, stands_on, f, kind, terms)
            self.assertEqual(rows, tuple(row for row, weight in enumerate(told[1]) if weight > 0))
            stood.append(0 if not rows else 2 if len(rows) == len(told_in(f)) else 1)
        # Nowhere, somewhere, everywhere.
        for where in (0, 1, 2):
            self.assertGreater(stood.count(where), 30)

    def test_all_functions_of_few_switches(self):
        for n in (0, 1, 2):
            every = sorted(subsets(n))
            for number in range(3 ** 2 ** n):
                f = tuple((0, 1, None)[number // 3 ** row % 3] for row in range(2 ** n))
                for terms in ((), ((),), tuple(every[1:]), tuple(every), tuple(every[:-1]), tuple(every[::2])):
                    for kind in KINDS:
                        told = split_of(f, kind, terms)
                        self.assertTrue(is_sound_split(f, kind, terms, told), (f, kind, terms, told))

    def test_written_out(self):
        self.assertEqual(stands_on((0, 1, 1, 0), "both", terms_to(2, 1)), (0, 1, 2, 3))
        self.assertEqual(stands_on((0, 1, 1, 0), "both", terms_to(2, 2)), ())
        self.assertEqual(stands_on((0, 0, 0, 1), "odd", terms_to(2, 1)), ())
        self.assertEqual(stands_on((0, 1, 1, 1), "both", ((0,), (1,))), (0,))
        self.assertEqual(stands_on((0, 1, 1, None), "both", ((0,), (1,))), (0,))
        self.assertEqual(stands_on((None, 1, 1, 1), "both", ((0,), (1,))), ())
        self.assertEqual(stands_on((None, None), "both", ((), (0,))), ())
        self.assertEqual(stands_on((None, None), "both", ()), ())
        self.assertEqual(stands_on((1, None), "both", ()), (0,))
        self.assertEqual(stands_on((1, 0), "odd", ()), (0, 1))
        self.assertEqual(stands_on((1,), "odd", ((),)), ())
        # Three switches: the odd ones stand on nought among those with switch 2 off, by terms of one switch.
        self.assertEqual(stands_on((0, 1, 1, 0, 1, 1, 1, 1), "both", terms_to(3, 1)), (0, 1, 2, 3))

    def test_the_same_rows_by_every_split(self):
        for f, kind, terms in cases(3, 2):
            rows = stands_on(f, kind, terms)
            self.assertEqual(stands_on(opposite(f), kind, terms), rows)
            n = len(f).bit_length() - 1
            size = max([len(term) for term in terms], default=0)
            if terms == terms_to(n, size):
                self.assertEqual(stands_on(f, "both", terms), stands_on(f, "odd", terms))
            if kind == "odd":
                # A switch that stands otherwise turns signs of terms alone.
                other = turned(f, tuple(range(n)))
                self.assertEqual(stands_on(other, kind, terms), tuple(sorted(2 ** n - 1 - row for row in rows)))

    def test_more_terms_stand_on_fewer_rows(self):
        for n in range(5):
            for f in functions_of(n, 5):
                for kind in KINDS:
                    ahead = set(row for row, sign in told_in(f))
                    for size in range(n + 1):
                        rows = set(stands_on(f, kind, terms_to(n, size)))
                        self.assertLessEqual(rows, ahead)
                        ahead = rows
                    self.assertEqual(ahead, set())


class Solved(unittest.TestCase):
    def test_a_polynomial_or_a_bar(self):
        words = []
        for f, kind, terms in cases(7):
            told = told_twice(self, solved, f, kind, terms)
            self.assertEqual(len(told), 2)
            words.append(told[0])
            if told[0] == "poly":
                self.assertTrue(is_sound_poly(kind, terms, told[1]), told)
                self.assertTrue(does_tell(told[1], f), (f, told))
                self.assertEqual(stands_on(f, kind, terms), ())
            else:
                self.assertEqual(told[0], "bar")
                self.assertTrue(is_sound_bar(f, kind, terms, told[1]), (f, told))
                self.assertNotEqual(stands_on(f, kind, terms), ())
        self.assertGreater(words.count("poly"), 100)
        self.assertGreater(words.count("bar"), 100)

    def test_nothing_told_or_no_terms(self):
        for kind in KINDS:
            for n in range(5):
                nothing = (None,) * 2 ** n
                for terms in ((), ((),), terms_to(n, n)):
                    told = solved(nothing, kind, terms)
                    self.assertEqual(told[0], "poly")
                    self.assertTrue(is_sound_poly(kind, terms, told[1]))
                self.assertEqual(solved(nothing, kind, ()), ("poly", (kind, ())))
                one_told = nothing[1:] + (1,)
                told = solved(one_told, kind, ())
                self.assertEqual(told[0], "bar")
                self.assertTrue(is_sound_bar(one_told, kind, (), told[1]))
                self.assertEqual(solved(one_told, kind, ((),))[0], "poly")

    def test_written_out(self):
        self.assertEqual(solved((0, 1, 1, 0), "both", terms_to(2, 1))[0], "bar")
        self.assertEqual(solved((0, 1, 1, 0), "both", terms_to(2, 2))[0], "poly")
        self.assertEqual(solved((0, 1, 1, 0), "odd", ((0, 1),))[0], "poly")
        self.assertEqual(solved((0, 1, 1, 0), "both", ((0, 1),))[0], "bar")
        self.assertEqual(solved((0, 1, 1, None), "both", terms_to(2, 1))[0], "poly")
        self.assertEqual(solved((0, 1, 1, 1), "both", ((0,), (1,)))[0], "bar")
        self.assertEqual(solved((1, 1), "both", ((),))[0], "poly")
        self.assertEqual(solved((1, 0), "both", ((),))[0], "bar")


if __name__ == "__main__":
    unittest.main()
