import fractions
import random
import unittest

from samples import (KINDS, choose, functions_by_number, functions_of, is_sound_widest, margin, polys_of, some_terms,
                     subsets, told_in, told_twice)
from signpoly.margins import margin_of, widest
from signpoly.moves import opposite, renamed, turned
from signpoly.splits import solved
from signpoly.terms import terms_to


def told_functions(n, seed):
    return [f for f in functions_of(n, seed) if told_in(f)]


def cases(seed, many=4, most_switches=4):
    """Functions with a told row, of 0 to 4 switches, with kinds and terms."""
    chance = random.Random(seed)
    for n in range(most_switches + 1):
        for f in told_functions(n, seed) + told_functions(n, seed + 1):
            for kind in KINDS:
                for terms in choose(chance, some_terms(n, chance), many):
                    yield f, kind, terms


class Margins(unittest.TestCase):
    def test_margin_written_out(self):
        f = (0, 0, 0, 1)
        self.assertEqual(margin_of(f, ("both", (((), -3), ((0,), 2), ((1,), 2)))), (1, 7))
        self.assertEqual(margin_of(f, ("both", (((), -2), ((0,), 1), ((1,), 1)))), (0, 1))
        self.assertEqual(margin_of(f, ("both", (((), -6), ((0,), 4), ((1,), 4)))), (1, 7))
        self.assertEqual(margin_of(f, ("both", (((), 1),))), (-1, 1))
        self.assertEqual(margin_of(f, ("both", (((), 2), ((0,), 2)))), (-1, 1))
        self.assertEqual(margin_of(f, ("both", (((), -4), ((0, 1), 2)))), (-1, 3))
        self.assertEqual(margin_of((None, 1), ("both", (((), -4), ((0,), 6)))), (1, 5))
        self.assertEqual(margin_of((None, 0), ("both", (((), -4), ((0,), 6)))), (-1, 5))
        self.assertEqual(margin_of((0, None), ("both", (((), -4), ((0,), 6)))), (2, 5))
        self.assertEqual(margin_of((1,), ("odd", (((), 10 ** 30),))), (1, 1))

    def test_margin_against_the_document(self):
        signs = []
        for n in range(5):
            for f in told_functions(n, 1):
                for kind in KINDS:
                    for poly in polys_of(kind, n, 5, 9) + polys_of(kind, n, 2, 10 ** 19):
                        if poly[1] == ():
                            continue
                        told = told_twice(self, margin_of, f, poly)
                        asked = margin(f, poly)
                        self.assertEqual(told, (asked.numerator, asked.denominator))
                        signs.append((told[0] > 0) - (told[0] < 0))
        for sign in (-1, 0, 1):
            self.assertGreater(signs.count(sign), 20)


class Widest(unittest.TestCase):
    def test_each_clause(self):
        tops = []
        for f, kind, terms in cases(1):
            told = told_twice(self, widest, f, kind, terms)
            self.assertTrue(is_sound_widest(f, kind, terms, told), (f, kind, terms, told))
            tops.append(told[0][0])
        self.assertGreater(tops.count(0), 100)
        self.assertGreater(tops.count(1), 100)
        self.assertGreater(len([top for top in tops if top > 1]), 0)

    def test_all_functions_of_few_switches(self):
        for n in (0, 1, 2):
            every = tuple(sorted(subsets(n)))
            for f in [f for f in functions_by_number(n) if told_in(f)]:
                for kind in KINDS:
                    for terms in ((), ((),), every, every[1:], every[:-1]):
                        told = widest(f, kind, terms)
                        self.assertTrue(is_sound_widest(f, kind, terms, told), (f, kind, terms, told))

    def test_written_out(self):
        unlike = (0, 1, 1, 0)
        self.assertEqual(widest(unlike, "odd", terms_to(2, 2))[:2], ((1, 1), ("odd", (((0, 1), -1),))))
        self.assertEqual(widest(unlike, "odd", ((0, 1),))[:2], ((1, 1), ("odd", (((0, 1), -1),))))
        self.assertEqual(widest(unlike, "odd", terms_to(2, 1)), ((0, 1), None, (1, 1, 1, 1)))
        self.assertEqual(widest((0, 0, 0, 1), "odd", terms_to(2, 1))[0], (1, 3))
        self.assertEqual(widest((0, 0, 0, 1), "odd", terms_to(2, 1))[1], ("odd", (((), -1), ((0,), -1), ((1,), -1))))
        self.assertEqual(widest((1,), "both", ((),)), ((1, 1), ("both", (((), 1),)), (1,)))
        self.assertEqual(widest((0,), "both", ((),)), ((1, 1), ("both", (((), -1),)), (1,)))
        self.assertEqual(widest((0,), "both", ()), ((0, 1), None, (1,)))
        self.assertEqual(widest((None, 0), "both", ())[:2], ((0, 1), None))
        # Two of three or more: a number for each switch alike, nothing else.
        most = tuple(int(bin(row).count("1") >= 2) for row in range(8))
        self.assertEqual(widest(most, "odd", terms_to(3, 1))[:2],
                         ((1, 3), ("odd", (((0,), -1), ((1,), -1), ((2,), -1)))))

    def test_no_polynomial_has_a_wider_margin(self):
        chance = random.Random(5)
        for f, kind, terms in cases(3, 2, 3):
            value = fractions.Fraction(*widest(f, kind, terms)[0])
            for _ in range(10):
                numbers = [chance.choice((0, chance.randint(-4, 4))) for _ in terms]
                parts = tuple((term, number) for term, number in zip(terms, numbers) if number != 0)
                if parts:
                    self.assertLessEqual(margin(f, (kind, parts)), value)

    def test_a_polynomial_that_tells_is_of_size_one_by_the_margin(self):
        found = 0
        for f, kind, terms in cases(7, 3):
            answer = solved(f, kind, terms)
            value = fractions.Fraction(*widest(f, kind, terms)[0])
            self.assertEqual(value > 0, answer[0] == "poly")
            if answer[0] == "poly":
                self.assertGreaterEqual(sum(abs(number) for term, number in answer[1][1]) * value, 1)
                found += 1
        self.assertGreater(found, 100)

    def test_opposite_turned_and_renamed_keep_the_value_by_odd(self):
        chance = random.Random(9)
        for n in range(5):
            for f in told_functions(n, 11):
                terms = terms_to(n, chance.randint(0, n))
                value = widest(f, "odd", terms)[0]
                some = tuple(k for k in range(n) if chance.random() < 0.5)
                order = tuple(chance.sample(range(n), n))
                for other in (opposite(f), turned(f, some), renamed(f, order)):
                    self.assertEqual(widest(other, "odd", terms)[0], value)


if __name__ == "__main__":
    unittest.main()
