import math
import random
import unittest

from samples import (KINDS, choose, functions_of, is_sound_bar, look_alike_otherwise, some_terms, strange_weights,
                     told_twice)
from signpoly.moves import left_out
from signpoly.splits import solved
from signpoly.terms import terms_to
from signpoly.thinning import is_thin, thinned

UNLIKE = (0, 1, 1, 0)
BOTH_ON = (0, 0, 0, 1)


def rows_of(weights):
    return tuple(row for row, weight in enumerate(weights) if weight > 0)


def is_sound(f, kind, terms, thing):
    """Whether it is a thin bar, as the document says it."""
    if not is_sound_bar(f, kind, terms, thing) or math.gcd(*thing) != 1:
        return False
    others = tuple(row for row in range(len(f)) if thing[row] == 0)
    # A bar of some of its rows, and not all, is one of all but one of them.
    return all(solved(left_out(f, others + (row,)), kind, terms)[0] == "poly" for row in rows_of(thing))


def barred_cases(most_switches, many, seed):
    """Functions, kinds and terms that have a bar, with one."""
    chance = random.Random(seed)
    for n in range(most_switches + 1):
        for f in functions_of(n, seed):
            for kind in KINDS:
                for terms in choose(chance, some_terms(n, chance), many):
                    answer = solved(f, kind, terms)
                    if answer[0] == "bar":
                        yield f, kind, terms, answer[1]


def summed(one, other, times=1):
    return tuple(left + times * right for left, right in zip(one, other))


class Thinning(unittest.TestCase):
    def test_thinned_is_a_thin_bar_of_its_rows(self):
        fewer = 0
        for f, kind, terms, bar in barred_cases(4, 4, 1):
            told = told_twice(self, thinned, f, kind, terms, bar)
            self.assertTrue(is_sound(f, kind, terms, told), (f, kind, terms, bar, told))
            self.assertLessEqual(set(rows_of(told)), set(rows_of(bar)))
            self.assertIs(told_twice(self, is_thin, f, kind, terms, told), True)
            fewer += rows_of(told) != rows_of(bar)
        self.assertGreater(fewer, 50)

    def test_thinned_of_any_bar(self):
        # Sums of bars of other rows, some times, with great numbers too.
        chance = random.Random(3)
        for f, kind, terms, bar in barred_cases(3, 3, 2):
            for _ in range(3):
                without = left_out(f, tuple(chance.sample(range(len(f)), chance.randint(0, len(f) // 2))))
                other = solved(without, kind, terms)
                added = bar if other[0] == "poly" else summed(bar, other[1], chance.choice((1, 2, 10 ** 22)))
                times = chance.choice((1, 2, 3, 10 ** 21))
                added = tuple(times * weight for weight in added)
                told = thinned(f, kind, terms, added)
                self.assertTrue(is_sound(f, kind, terms, told))
                self.assertLessEqual(set(rows_of(told)), set(rows_of(added)))

    def test_thinned_leaves_a_thin_one(self):
        for f, kind, terms, bar in barred_cases(3, 3, 4):
            thin = thinned(f, kind, terms, bar)
            self.assertEqual(thinned(f, kind, terms, thin), thin)
            self.assertEqual(thinned(f, kind, terms, tuple(6 * weight for weight in thin)), thin)

    def test_written_out(self):
        for kind in KINDS:
            self.assertEqual(thinned(UNLIKE, kind, terms_to(2, 1), (3, 3, 3, 3)), (1, 1, 1, 1))
            self.assertIn(thinned(BOTH_ON, kind, ((),), (1, 1, 1, 3)), ((1, 0, 0, 1), (0, 1, 0, 1), (0, 0, 1, 1)))
            self.assertEqual(thinned(BOTH_ON, kind, ((),), (0, 5, 0, 5)), (0, 1, 0, 1))
            self.assertEqual(thinned((0,), kind, (), (8,)), (1,))
            self.assertIn(thinned(BOTH_ON, kind, (), (2, 0, 7, 0)), ((1, 0, 0, 0), (0, 0, 1, 0)))
            self.assertEqual(thinned((None, 0, None, 1), kind, ((),), (0, 9, 0, 9)), (0, 1, 0, 1))
        # By the first switch alone: two rows off weigh nothing, the two on weigh against one another.
        self.assertIn(thinned((0, 0, 1, 1), "both", ((0,),), (4, 1, 5, 1)), ((1, 0, 0, 0), (0, 0, 1, 0), (0, 1, 0, 1)))

    def test_is_thin_written_out(self):
        for kind in KINDS:
            self.assertIs(is_thin(UNLIKE, kind, terms_to(2, 1), (1, 1, 1, 1)), True)
            self.assertIs(is_thin(UNLIKE, kind, terms_to(2, 1), (2, 2, 2, 2)), False)
            self.assertIs(is_thin(UNLIKE, kind, terms_to(2, 1), (0, 0, 0, 0)), False)
            self.assertIs(is_thin(UNLIKE, kind, ((),), (1, 1, 1, 1)), False)
            self.assertIs(is_thin(UNLIKE, kind, terms_to(2, 2), (1, 1, 1, 1)), False)
            self.assertIs(is_thin(BOTH_ON, kind, ((),), (1, 0, 0, 1)), True)
            self.assertIs(is_thin(BOTH_ON, kind, ((),), (2, 0, 0, 2)), False)
            self.assertIs(is_thin(BOTH_ON, kind, ((),), (1, 1, 0, 2)), False)
            self.assertIs(is_thin(BOTH_ON, kind, ((),), (1, 0, 0, 2)), False)
            self.assertIs(is_thin((0,), kind, (), (1,)), True)
            self.assertIs(is_thin((0,), kind, (), (2,)), False)
            self.assertIs(is_thin((0, 1), kind, (), (1, 1)), False)
            self.assertIs(is_thin((0, None), kind, (), (0, 1)), False)
            self.assertIs(is_thin((None,), kind, (), (0,)), False)

    def test_thin_ones_together_are_not_thin(self):
        found = 0
        for f, kind, terms, bar in barred_cases(3, 4, 5):
            one = thinned(f, kind, terms, bar)
            for number in (2, 3, 10 ** 20):
                self.assertIs(is_thin(f, kind, terms, tuple(number * weight for weight in one)), False)
            others = solved(left_out(f, rows_of(one)[:1]), kind, terms)
            if others[0] == "bar":
                other = thinned(f, kind, terms, others[1])
                self.assertNotEqual(one, other)
                for number in (1, 2, 3):
                    both = summed(one, other, number)
                    self.assertTrue(is_sound_bar(f, kind, terms, both))
                    self.assertIs(is_thin(f, kind, terms, both), False)
                found += 1
        self.assertGreater(found, 50)

    def test_one_place_otherwise(self):
        papers = [((f, kind, terms), bar) for f, kind, terms, bar in barred_cases(2, 3, 6)]
        papers += [(case, thinned(*case, bar)) for case, bar in papers]
        look_alike_otherwise(self, is_thin, is_sound, papers)

    def test_anything(self):
        for f, kind, terms in (((1,), "odd", ()), ((1, None), "both", ()), ((1, 0), "odd", ((),)), ((None,), "both", ())):
            for thing in strange_weights():
                self.assertIs(is_thin(f, kind, terms, thing), is_sound(f, kind, terms, thing), thing)


if __name__ == "__main__":
    unittest.main()
