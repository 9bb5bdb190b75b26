import itertools
import random
import unittest

from samples import (KINDS, choose, does_tell, functions_by_number, functions_of, is_sound_poly, is_sound_tree,
                     poly_value, some_terms, subsets, told_in, told_twice)
from signpoly.margins import widest
from signpoly.polys import size_of
from signpoly.sizes import least_size
from signpoly.splits import solved
from signpoly.terms import terms_to


def rows_of_size(many, size):
    """All rows of so many whole numbers of size at most this."""
    if many == 0:
        yield ()
        return
    for number in range(-size, size + 1):
        for rest in rows_of_size(many - 1, size - abs(number)):
            yield (number,) + rest


def told_by_rows(f, kind, terms, size):
    """Whether numbers of size at most this tell the function."""
    for numbers in rows_of_size(len(terms), size):
        if does_tell((kind, tuple(zip(terms, numbers))), f):
            return True
    return False


def leaves(tree):
    if tree == ():
        return []
    return [tree] if tree[0] == "leaf" else leaves(tree[3]) + leaves(tree[4])


def told_functions(chance, kind, terms, many, n=3):
    """Functions that polynomials of the terms tell; where one is at nought the row isn't told."""
    for _ in range(many):
        poly = (kind, tuple((term, chance.choice((-7, -5, -4, -3, -2, -1, 1, 2, 3, 4, 5, 6))) for term in terms))
        values = [poly_value(poly, row) for row in range(2 ** n)]
        yield tuple(1 if value > 0 else 0 if value < 0 else None for value in values)


class Sizes(unittest.TestCase):
    def check(self, f, kind, terms, again=True):
        """Each clause of the document; tells the size and the tree."""
        told = told_twice(self, least_size, f, kind, terms) if again else least_size(f, kind, terms)
        self.assertEqual(told is None, solved(f, kind, terms)[0] == "bar")
        if told is None:
            return None, None
        self.assertIs(type(told), tuple)
        poly, tree = told
        self.assertTrue(is_sound_poly(kind, terms, poly), told)
        self.assertTrue(does_tell(poly, f), told)
        size = sum(abs(number) for term, number in poly[1])
        if size == 0:
            self.assertEqual(tree, ())
        else:
            self.assertTrue(is_sound_tree(f, kind, terms, size, tree), (f, kind, terms, told))
        return size, tree

    def test_few_switches(self):
        for n in (0, 1, 2):
            every = sorted(subsets(n))
            for f in functions_by_number(n):
                for kind in KINDS:
                    for terms in ((), ((),), tuple(every), tuple(every[1:]), tuple(every[:-1])):
                        size, tree = self.check(f, kind, terms)
                        if size:
                            self.assertFalse(told_by_rows(f, kind, terms, size - 1) if size < 6 else False)

    def test_three_switches(self):
        chance = random.Random(1)
        sizes = []
        for seed in range(4):
            for f in functions_of(3, seed):
                for kind in KINDS:
                    for terms in choose(chance, [terms for terms in some_terms(3, chance) if len(terms) < 6], 4):
                        sizes.append(self.check(f, kind, terms)[0])
        self.assertGreater(sizes.count(None), 50)
        self.assertGreater(sizes.count(0), 10)
        self.assertGreater(len([size for size in sizes if size]), 20)

    def test_functions_that_five_terms_tell(self):
        chance = random.Random(2)
        several = 0
        sizes = []
        for kind in KINDS:
            for terms in choose(chance, list(itertools.combinations(sorted(subsets(3)), 5)), 30):
                for f in told_functions(chance, kind, terms, 8):
                    size, tree = self.check(f, kind, terms, False)
                    sizes.append(size)
                    several += len(leaves(tree)) > 1
                    if size <= 4:
                        self.assertFalse(told_by_rows(f, kind, terms, size - 1))
        self.assertGreater(several, 50)
        self.assertGreater(max(sizes), 6)

    def test_cases_that_no_numbers_of_any_size_keep_to(self):
        # Here a term's number is at least one and a half, and at a leaf it is to be one at most, or likewise below.
        cases = (
            ((0, 0, 0, 1, 0, 1, 0, 1), ((0,), (0, 1), (0, 1, 2), (1, 2), (2,))),
            ((0, 1, 0, None, 0, 0, 0, 1), ((0,), (0, 1), (0, 2), (1, 2), (2,))),
            ((0, None, 0, 1, 1, 1, 0, 1), ((0,), (0, 1, 2), (0, 2), (1,), (1, 2))),
            ((None, 0, 0, 0, None, 0, 1, None), ((0,), (0, 1), (0, 1, 2), (0, 2), (1,))),
        )
        for f, terms in cases:
            size, tree = self.check(f, "odd", terms)
            self.assertEqual(size, 5)
            self.assertFalse(told_by_rows(f, "odd", terms, 4))

    def test_each_two_of_some_switches(self):
        # By fractions each switch has a half; whole numbers need 1 for all switches but one. (Of four and five
        # switches too, which isn't promised, as no function of three has such trees.)
        for n in (3, 4, 5):
            f = tuple(1 if bin(row).count("1") == 2 else None for row in range(2 ** n))
            size, tree = self.check(f, "both", tuple((k,) for k in range(n)))
            self.assertEqual(size, n - 1)

    def test_against_going_through_all_numbers(self):
        chance = random.Random(3)
        for kind in KINDS:
            for terms in choose(chance, list(itertools.combinations(sorted(subsets(3)), 4)), 10):
                for f in told_functions(chance, kind, terms, 3):
                    size, tree = self.check(f, kind, terms, False)
                    if size <= 7:
                        self.assertFalse(told_by_rows(f, kind, terms, size - 1))

    def test_nothing_told_and_no_terms(self):
        for n in range(4):
            for kind in KINDS:
                nothing = (None,) * 2 ** n
                for terms in ((), ((),), terms_to(n, n)[:5]):
                    self.assertEqual(least_size(nothing, kind, terms), ((kind, ()), ()))
                for value in (0, 1):
                    self.assertIsNone(least_size(nothing[1:] + (value,), kind, ()))

    def test_written_out(self):
        unlike = (0, 1, 1, 0)
        self.assertIsNone(least_size(unlike, "odd", terms_to(2, 1)))
        self.assertEqual(least_size(unlike, "odd", ((0, 1),))[0], ("odd", (((0, 1), -1),)))
        self.assertEqual(least_size(unlike, "odd", terms_to(2, 2))[0], ("odd", (((0, 1), -1),)))
        self.assertEqual(least_size((0, 0, 0, 1), "odd", terms_to(2, 1))[0],
                         ("odd", (((), -1), ((0,), -1), ((1,), -1))))
        self.assertEqual(least_size((0, 0, 0, 1), "both", ((), (0, 1)))[0], ("both", (((), -1), ((0, 1), 2))))
        self.assertEqual(size_of(least_size((0, 0, 0, 1), "both", terms_to(2, 1))[0]), 7)
        self.assertEqual(least_size((1,), "both", ((),))[0], ("both", (((), 1),)))
        self.assertEqual(least_size((0,), "both", ((),))[0], ("both", (((), -1),)))
        all_of_three = (0,) * 7 + (1,)
        self.assertEqual(size_of(least_size(all_of_three, "odd", terms_to(3, 1))[0]), 5)
        self.assertEqual(size_of(least_size(all_of_three, "both", terms_to(3, 1))[0]), 11)

    def test_size_times_the_widest_margin_is_one_or_more(self):
        chance = random.Random(5)
        for kind in KINDS:
            for terms in choose(chance, list(itertools.combinations(sorted(subsets(3)), 5)), 10):
                for f in told_functions(chance, kind, terms, 4):
                    if told_in(f):
                        value = widest(f, kind, terms)[0]
                        self.assertGreaterEqual(size_of(least_size(f, kind, terms)[0]) * value[0], value[1])


if __name__ == "__main__":
    unittest.main()
