import random
import unittest

from samples import (KINDS, choose, does_tell, full_functions, is_sound_alone, some_terms, term_value, told_twice)
from signpoly.exacts import sum_by
from signpoly.splits import stands_on
from signpoly.sums import alone
from signpoly.terms import terms_to


class Sums(unittest.TestCase):
    def check(self, f, kind, terms):
        told = told_twice(self, alone, f, kind, terms)
        self.assertTrue(is_sound_alone(f, kind, terms, told), (f, kind, terms, told))
        self.assertIs(told[0] == "other", stands_on(f, kind, terms) != (), (f, kind, terms))
        return told

    def test_each_clause(self):
        chance = random.Random(1)
        told = {"alone": 0, "other": 0}
        for n in range(5):
            for f in full_functions(n):
                for kind in KINDS:
                    for terms in some_terms(n, chance) if n < 3 else choose(chance, some_terms(n, chance), 5):
                        told[self.check(f, kind, terms)[0]] += 1
        self.assertGreater(min(told.values()), 100)

    def test_sums_by_the_function_of_sums(self):
        for f, kind, size in (((0, 1, 1, 0), "both", 1), ((0, 1, 1, 0, 1, 0, 0, 1), "odd", 2)):
            n = len(f).bit_length() - 1
            word, numbers, part = self.check(f, kind, terms_to(n, size))
            self.assertEqual(word, "other")
            for term in terms_to(n, size):
                told = sum(number * term_value(kind, term, row) for row, number in enumerate(numbers))
                self.assertEqual(told, part * sum_by(f, kind, term))

    def test_no_other_row_has_these_sums(self):
        # All rows of halves from -1 to 1: where alone is told, just the signs have the sums; by the bar's way another.
        def rows(many):
            if many == 0:
                yield ()
                return
            for rest in rows(many - 1):
                yield from ((number,) + rest for number in (-2, -1, 0, 1, 2))

        chance = random.Random(2)
        for n in range(3):
            for f in choose(chance, full_functions(n), 6):
                for kind in KINDS:
                    for terms in choose(chance, some_terms(n, chance), 4):
                        if alone(f, kind, terms)[0] == "other":
                            continue
                        wanted = [2 * sum_by(f, kind, term) for term in terms]
                        shared = [numbers for numbers in rows(2 ** n)
                                  if [sum(number * term_value(kind, term, row) for row, number in enumerate(numbers))
                                      for term in terms] == wanted]
                        self.assertEqual(shared, [tuple(4 * value - 2 for value in f)])

    def test_written_out(self):
        self.assertEqual(alone((1,), "both", ()), ("other", (0,), 1))
        self.assertEqual(alone((1,), "both", ((),)), ("alone", ("both", (((), 1),))))
        self.assertEqual(alone((0,), "odd", ((),)), ("alone", ("odd", (((), -1),))))
        self.assertEqual(alone((0, 1, 1, 0), "both", terms_to(2, 1))[0], "other")
        for kind in KINDS:
            told = alone((0, 0, 0, 1), kind, terms_to(2, 1))
            self.assertEqual(told[0], "alone")
            self.assertTrue(does_tell(told[1], (0, 0, 0, 1)))


if __name__ == "__main__":
    unittest.main()
