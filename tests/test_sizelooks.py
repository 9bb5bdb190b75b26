import itertools
import random
import unittest

from samples import (KINDS, STRANGE, Prickly, choose, does_tell, functions_by_number, functions_of, is_sound_size,
                     look_alike_otherwise, nested, poly_value, some_terms, subsets, told_twice, tower)
from signpoly.reckoning import often
from signpoly.signs import signed_values
from signpoly.sizelooks import shows_size
from signpoly.sizes import leaf_of, least_size, weighed

BOTH_ON = (0, 0, 0, 1)
ENDS = ((), (0, 1))
LEAST = ("both", (((), -1), ((0, 1), 2)))
NONE = (0, 0)
LEAF = ("leaf", (2, 0, 0, 1), NONE, NONE, 1)

# By odd terms the first one's number is at least one and a half below nought, so a tree needs a cut there.
CUT_F = (0, 0, 0, 1, 0, 1, 0, 1)
CUT_TERMS = ((0,), (0, 1), (0, 1, 2), (1, 2), (2,))
CUT_POLY = ("odd", (((0,), -2), ((0, 1, 2), 1), ((1, 2), -1), ((2,), -1)))
FREE = (0, 0, 0, 0, 0)
BELOW = ("leaf", (0, 1, 0, 0, 0, 0, 0, 0), FREE, (2, 0, 0, 0, 0), 1)
ABOVE = ("leaf", (1, 1, 0, 0, 2, 0, 1, 1), (4, 0, 0, 0, 0), FREE, 0)


def times(numbers, number):
    return tuple(number * one for one in numbers)


def leaves_times(tree, number):
    """The tree with all numbers of each leaf taken so many times."""
    if tree == ():
        return tree
    if tree[0] == "leaf":
        return ("leaf",) + tuple(times(row, number) for row in tree[1:4]) + (number * tree[4],)
    return tree[:3] + (leaves_times(tree[3], number), leaves_times(tree[4], number))


def leaves_cut(tree, j, v):
    """The tree with a cut more ahead of each leaf."""
    if tree[0] == "leaf":
        return ("part", j, v, tree, tree)
    return tree[:3] + (leaves_cut(tree[3], j, v), leaves_cut(tree[4], j, v))


def any_tree(chance, f, kind, terms, deep, lows, highs):
    """A tree with cuts by chance, its leaves told by the most; it may show too little."""
    if deep > 0 and chance.random() < 0.7:
        j, v = chance.randrange(len(terms)), chance.randint(-3, 3)
        below = min(v, highs[j]) if highs[j] is not None else v
        above = max(v + 1, lows[j]) if lows[j] is not None else v + 1
        return ("part", j, v, any_tree(chance, f, kind, terms, deep - 1, lows, highs[:j] + (below,) + highs[j + 1:]),
                any_tree(chance, f, kind, terms, deep - 1, lows[:j] + (above,) + lows[j + 1:], highs))
    told = weighed(signed_values(f, kind, terms), lows, highs)
    if told[0] == "beyond":
        return leaf_of(f, lows, highs, told[1], 0)
    return leaf_of(f, lows, highs, told[2], told[1])


def cases(seed, many):
    """Functions with kinds and terms, some of which tell them."""
    chance = random.Random(seed)
    for n in range(4):
        for f in functions_of(n, seed):
            for kind in KINDS:
                for terms in choose(chance, [terms for terms in some_terms(n, chance) if len(terms) < 6], many):
                    yield f, kind, terms
    for kind in KINDS:
        for terms in choose(chance, list(itertools.combinations(sorted(subsets(3)), 5)), 3 * many):
            poly = (kind, tuple((term, chance.choice((-4, -3, -2, -1, 1, 2, 3))) for term in terms))
            values = [poly_value(poly, row) for row in range(8)]
            yield tuple(1 if value > 0 else 0 if value < 0 else None for value in values), kind, terms


def told_cases(seed, many):
    return [(case, least_size(*case)) for case in cases(seed, many) if least_size(*case) is not None]


class SizeLooks(unittest.TestCase):
    def shows(self, f, kind, terms, thing):
        self.assertIs(shows_size(f, kind, terms, thing), True, (f, kind, terms, thing))

    def refuses(self, f, kind, terms, thing):
        self.assertIs(shows_size(f, kind, terms, thing), False, (f, kind, terms, thing))

    def test_what_is_told(self):
        sizes = set()
        for (f, kind, terms), (poly, tree) in told_cases(1, 4):
            self.assertIs(told_twice(self, shows_size, f, kind, terms, (poly, tree)), True)
            sizes.add(sum(abs(number) for term, number in poly[1]))
            self.assertIs(tree == (), poly[1] == ())
            self.refuses(f, kind, terms, None)
            self.refuses(f, "both" if kind == "odd" else "odd", terms, (poly, tree))
            if poly[1] == ():
                for other in (("leaf", (0,) * len(f)) + ((0,) * len(terms),) * 2 + (0,), None, 0, [], "", ((),)):
                    self.refuses(f, kind, terms, (poly, other))
                continue
            self.refuses(f, kind, terms, (poly, ()))
            self.refuses(f, kind, terms, (often(poly, -1), tree))
            self.refuses(f, kind, terms, (often(poly, 2), tree))
            for number in (2, 10 ** 30):
                self.shows(f, kind, terms, (poly, leaves_times(tree, number)))
            self.refuses(f, kind, terms, (poly, leaves_times(tree, 0)))
            self.refuses(f, kind, terms, (poly, leaves_times(tree, -1)))
            for j in range(len(terms)):
                for v in (-10 ** 25, -1, 0, 2):
                    self.shows(f, kind, terms, (poly, leaves_cut(tree, j, v)))
                self.shows(f, kind, terms, (poly, leaves_cut(leaves_cut(tree, j, 1), j, -1)))
        self.assertTrue(sizes >= {0, 1, 2, 3}, sizes)

    def test_another_polynomial_of_the_size(self):
        several = 0
        for (f, kind, terms), (poly, tree) in told_cases(2, 6):
            size = sum(abs(number) for term, number in poly[1])
            if size > 4:
                continue
            for numbers in itertools.product(range(-size, size + 1), repeat=len(terms)):
                if sum(map(abs, numbers)) not in (size, size + 1):
                    continue
                other = (kind, tuple((term, number) for term, number in zip(terms, numbers) if number))
                told = does_tell(other, f) and sum(map(abs, numbers)) == size
                self.assertIs(shows_size(f, kind, terms, (other, tree)), told)
                several += told and other != poly
        self.assertGreater(several, 20)

    def test_trees_by_chance(self):
        chance = random.Random(3)
        told = {True: 0, False: 0}
        for (f, kind, terms), (poly, tree) in told_cases(3, 4):
            if poly[1] == ():
                continue
            for _ in range(12):
                free = (None,) * len(terms)
                other = any_tree(chance, f, kind, terms, 4, free, free)
                shown = shows_size(f, kind, terms, (poly, other))
                self.assertIs(shown, is_sound_size(f, kind, terms, (poly, other)), (f, kind, terms, poly, other))
                told[shown] += 1
        self.assertGreater(min(told.values()), 50)

    def test_the_two_sums_at_their_bounds(self):
        self.shows(BOTH_ON, "both", ENDS, (LEAST, LEAF))
        for part in (0, 2):
            # Below a weighted sum in size; and all weights together no more than part times (s - 1).
            self.refuses(BOTH_ON, "both", ENDS, (LEAST, LEAF[:4] + (part,)))
        for weights, shown in (((1, 0, 0, 1), False), ((2, 0, 0, 1), True), ((3, 0, 0, 1), False), ((2, 0, 0, 2), False),
                               ((2, 0, 0, 0), False), ((1, 1, 0, 1), True), ((0, 1, 1, 1), True), ((1, 1, 1, 1), False)):
            self.assertIs(shows_size(BOTH_ON, "both", ENDS, (LEAST, ("leaf", weights, NONE, NONE, 1))), shown, weights)
        # Twice all of it, and one more or less at each sum.
        for weights, part, shown in (((4, 0, 0, 2), 2, True), ((3, 0, 0, 2), 2, True), ((3, 0, 0, 1), 2, False),
                                     ((4, 0, 0, 2), 1, False), ((4, 0, 0, 2), 3, False), ((5, 0, 0, 2), 3, True)):
            self.assertIs(shows_size(BOTH_ON, "both", ENDS, (LEAST, ("leaf", weights, NONE, NONE, part))), shown, weights)
        self.shows((1,), "both", ((),), (("both", (((), 1),)), ("leaf", (1,), (0,), (0,), 1)))
        self.shows((1,), "both", ((),), (("both", (((), 1),)), ("leaf", (1,), (0,), (0,), 7)))
        self.refuses((1,), "both", ((),), (("both", (((), 1),)), ("leaf", (1,), (0,), (0,), 0)))
        self.refuses((1,), "both", ((),), (("both", (((), 1),)), ("leaf", (0,), (0,), (0,), 0)))
        self.refuses((1,), "both", ((),), (("both", (((), 1),)), ("leaf", (0,), (0,), (0,), 1)))

    def test_lows_and_highs_at_their_bounds(self):
        tree = ("part", 0, -2, BELOW, ABOVE)
        self.shows(CUT_F, "odd", CUT_TERMS, (CUT_POLY, tree))
        # The number is below a bound that is less by one: then the leaf above shows too little, and likewise.
        self.refuses(CUT_F, "odd", CUT_TERMS, (CUT_POLY, ("part", 0, -3, BELOW, ABOVE)))
        self.refuses(CUT_F, "odd", CUT_TERMS, (CUT_POLY, ("part", 0, -1, BELOW, ABOVE)))
        self.refuses(CUT_F, "odd", CUT_TERMS, (CUT_POLY, ("part", 0, -2, ABOVE, BELOW)))
        self.refuses(CUT_F, "odd", CUT_TERMS, (CUT_POLY, ("part", 1, -2, BELOW, ABOVE)))
        self.refuses(CUT_F, "odd", CUT_TERMS, (CUT_POLY, BELOW))
        self.refuses(CUT_F, "odd", CUT_TERMS, (CUT_POLY, ABOVE))
        for lows in ((3, 0, 0, 0, 0), (5, 0, 0, 0, 0), (4, 1, 0, 0, 0), (4, 0, 0, 0, 1)):
            self.refuses(CUT_F, "odd", CUT_TERMS, (CUT_POLY, ("part", 0, -2, BELOW, ABOVE[:2] + (lows,) + ABOVE[3:])))
        for highs in ((0, 0, 0, 0, 0), (3, 0, 0, 0, 0), (2, 1, 0, 0, 0), (2, 0, 0, 0, 1)):
            self.refuses(CUT_F, "odd", CUT_TERMS, (CUT_POLY, ("part", 0, -2, BELOW[:3] + (highs, 1), ABOVE)))

    def test_the_narrowest_bound_holds(self):
        below, above = BELOW, ABOVE
        shut = ("leaf", (0,) * 8, (1, 0, 0, 0, 0), (1, 0, 0, 0, 0), 0)
        # Further cuts the same way, wider or narrower: the leaf is held by the narrowest of them.
        self.shows(CUT_F, "odd", CUT_TERMS, (CUT_POLY, ("part", 0, 5, ("part", 0, -2, below, above), above)))
        self.shows(CUT_F, "odd", CUT_TERMS, (CUT_POLY, ("part", 0, -2, ("part", 0, 5, below, shut), above)))
        self.shows(CUT_F, "odd", CUT_TERMS, (CUT_POLY, ("part", 0, -9, below, ("part", 0, -2, below, above))))
        self.shows(CUT_F, "odd", CUT_TERMS, (CUT_POLY, ("part", 0, -2, below, ("part", 0, -9, shut, above))))
        # Here the number is at least as much as it is at most, so the leaf that shuts both ways shows nothing.
        self.refuses(CUT_F, "odd", CUT_TERMS, (CUT_POLY, ("part", 0, -2, ("part", 0, -3, below, shut), above)))
        self.refuses(CUT_F, "odd", CUT_TERMS, (CUT_POLY, ("part", 0, 5, below, above)))
        self.refuses(CUT_F, "odd", CUT_TERMS, (CUT_POLY, ("part", 0, -9, below, above)))
        self.refuses(CUT_F, "odd", CUT_TERMS, (CUT_POLY, ("part", 0, -9, below, ("part", 0, -3, below, above))))
        self.refuses(CUT_F, "odd", CUT_TERMS, (CUT_POLY, ("part", 0, 5, ("part", 0, -1, below, above), above)))

    def test_a_shut_way_is_held_by_its_leaves(self):
        for leaf in (BELOW, ABOVE, ("leaf", (0,) * 8, FREE, FREE, 0), ("leaf", (1,) * 8, FREE, FREE, 0), (), None, "leaf",
                     ("leaf", (0,) * 8, (1, 0, 0, 0, 0), (2, 0, 0, 0, 0), 0),
                     ("leaf", (0,) * 8, (0, 1, 0, 0, 0), (0, 1, 0, 0, 0), 0),
                     ("leaf", (0,) * 8, (1, 0, 0, 0, 0), (1, 0, 0, 0, 0))):
            shut = ("part", 0, -2, ("part", 0, 5, BELOW, leaf), ABOVE)
            shown = is_sound_size(CUT_F, "odd", CUT_TERMS, (CUT_POLY, shut))
            self.assertIs(shows_size(CUT_F, "odd", CUT_TERMS, (CUT_POLY, shut)), shown, leaf)
            self.assertIs(shown, leaf in (BELOW, ABOVE))

    def test_lows_and_highs_where_there_is_no_bound(self):
        # Such a leaf would show too much: the sums hold with the bound taken as nought.
        one = ("both", (((), 1),))
        self.shows((1,), "both", ((),), (one, ("leaf", (1,), (0,), (0,), 1)))
        self.refuses((1,), "both", ((),), (one, ("leaf", (1,), (0,), (1,), 0)))
        self.refuses((1,), "both", ((),), (one, ("leaf", (1,), (0,), (1,), 1)))
        self.refuses((0,), "both", ((),), (("both", (((), -1),)), ("leaf", (1,), (1,), (0,), 0)))
        self.refuses((1,), "both", ((),), (one, ("leaf", (1,), (1,), (1,), 1)))
        below = ("leaf", (1,), (0,), (1,), 0)
        above = ("leaf", (0,), (1,), (0,), 1)
        sound = ("leaf", (1,), (0,), (0,), 1)
        self.shows((1,), "both", ((),), (one, ("part", 0, 0, below, sound)))
        self.shows((1,), "both", ((),), (one, ("part", 0, 0, sound, above)))
        self.shows((1,), "both", ((),), (one, ("part", 0, 0, below, above)))
        self.refuses((1,), "both", ((),), (one, ("part", 0, 0, above, below)))
        self.refuses((1,), "both", ((),), (one, ("part", 0, 0, below, below)))
        self.refuses((1,), "both", ((),), (one, ("part", 0, 0, above, above)))
        self.refuses((1,), "both", ((),), (one, ("part", 0, 1, below, above)))
        self.refuses((1,), "both", ((),), (one, ("part", 0, -1, below, above)))

    def test_polynomials_that_are_not_such(self):
        for poly in (("both", (((), -2), ((0, 1), 3))), ("both", (((), -1), ((0, 1), 3))), ("both", (((), -1), ((0, 1), 1))),
                     ("both", (((), 1), ((0, 1), 2))), ("odd", LEAST[1]), ("both", LEAST[1][::-1]), ("both", ()), (),
                     ("both", list(LEAST[1])), list(LEAST), ("both", (((), -1), ((0, 1), 2), ((1,), 0))), None,
                     ("both", (((), -1), ((0, True), 2)))):
            self.refuses(BOTH_ON, "both", ENDS, (poly, LEAF))
            self.refuses(BOTH_ON, "both", ENDS, (poly, ()))
        # It tells, and is of the size, but of a term that isn't among the terms.
        self.shows((0, 1), "both", ((), (0,)), (("both", (((), -1), ((0,), 2))), ("leaf", (2, 1), NONE, NONE, 1)))
        self.refuses((0, 1), "both", ((),), (("both", (((), -1), ((0,), 2))), ("leaf", (2, 1), (0,), (0,), 1)))
        self.refuses((1,), "both", ((),), (("both", (((0,), 1),)), ("leaf", (1,), (0,), (0,), 1)))
        self.refuses((1,), "both", ((), (0,)), (("both", (((0,), 1),)), ("leaf", (1,), NONE, NONE, 1)))
        # Nothing is told, so the least size is 0.
        self.refuses((None,), "both", ((),), (("both", (((), 1),)), ("leaf", (0,), (0,), (0,), 0)))
        self.refuses((None,), "both", ((),), (("both", (((), 1),)), ()))
        self.refuses((None,), "both", ((),), (("both", (((), 1),)), ("leaf", (1,), (0,), (0,), 0)))
        self.shows((None,), "both", ((),), (("both", ()), ()))
        self.shows((None, None), "odd", (), (("odd", ()), ()))
        self.refuses((1,), "both", ((),), (("both", ()), ()))

    def test_leaves_that_are_not_such(self):
        for leaf in (LEAF[:4], LEAF + (0,), ("leafs",) + LEAF[1:], ("part",) + LEAF[1:], list(LEAF), (None,) + LEAF[1:],
                     ("leaf", (2, 0, 0), NONE, NONE, 1), ("leaf", (2, 0, 0, 1, 0), NONE, NONE, 1),
                     ("leaf", (2, 0, 0, True), NONE, NONE, 1), ("leaf", [2, 0, 0, 1], NONE, NONE, 1),
                     ("leaf", (3, -1, 0, 1), NONE, NONE, 1), ("leaf", (2, 0, 0, 1), (0,), NONE, 1),
                     ("leaf", (2, 0, 0, 1), NONE, (0,), 1), ("leaf", (2, 0, 0, 1), (0, 0, 0), NONE, 1),
                     ("leaf", (2, 0, 0, 1), NONE, (0, 0, 0), 1), ("leaf", (2, 0, 0, 1), [0, 0], NONE, 1),
                     ("leaf", (2, 0, 0, 1), NONE, (0, False), 1), ("leaf", (2, 0, 0, 1), (False, 0), NONE, 1),
                     ("leaf", (2, 0, 0, 1), NONE, NONE, True), ("leaf", (2, 0, 0, 1), NONE, NONE, -1),
                     ("leaf", (2, 0, 0, 1), NONE, NONE, None), ("leaf", (2, 0, 0, 1), (1, 0), (1, 0), 1),
                     ("leaf", (2, 0, 0, 1), (-1, 0), NONE, 1), ("leaf", (2, 0, 0, 1), NONE, (-1, 0), 1)):
            self.refuses(BOTH_ON, "both", ENDS, (LEAST, leaf))
            self.refuses(BOTH_ON, "both", ENDS, (LEAST, ("part", 0, 0, LEAF, leaf)))
            self.refuses(BOTH_ON, "both", ENDS, (LEAST, ("part", 0, 0, leaf, LEAF)))
        # A weight at a row that isn't told.
        f = (0, None, 0, 1)
        self.shows(f, "both", ENDS, (LEAST, LEAF))
        self.refuses(f, "both", ENDS, (LEAST, ("leaf", (2, 1, 0, 1), NONE, NONE, 1)))
        self.refuses(f, "both", ENDS, (LEAST, ("leaf", (1, 1, 0, 1), NONE, NONE, 1)))

    def test_cuts_that_are_not_such(self):
        self.shows(BOTH_ON, "both", ENDS, (LEAST, ("part", 0, 0, LEAF, LEAF)))
        self.shows(BOTH_ON, "both", ENDS, (LEAST, ("part", 1, -10 ** 40, LEAF, LEAF)))
        for j in (2, -1, 10 ** 30, True, False, None, "0", (0,)):
            self.refuses(BOTH_ON, "both", ENDS, (LEAST, ("part", j, 0, LEAF, LEAF)))
        for v in (True, False, None, "0", (0,), Prickly()):
            self.refuses(BOTH_ON, "both", ENDS, (LEAST, ("part", 0, v, LEAF, LEAF)))
        for tree in (("part", 0, 0, LEAF), ("part", 0, 0, LEAF, LEAF, LEAF), ["part", 0, 0, LEAF, LEAF],
                     ("parts", 0, 0, LEAF, LEAF), (0, 0, LEAF, LEAF), ("part", 0, 0, LEAF, ()), ("part", 0, 0, (), LEAF),
                     ("part", 0, 0, LEAF, None), ("part", 0, 0, [LEAF], LEAF), ("part",), (("part", 0, 0, LEAF, LEAF),)):
            self.refuses(BOTH_ON, "both", ENDS, (LEAST, tree))
        self.refuses((1,), "both", (), (("both", ()), ("part", 0, 0, (), ())))

    def test_deep_trees(self):
        for deep in (37, 3000):
            by_other = nested(LEAF, lambda tree: ("part", 0, 0, LEAF, tree), deep)
            by_one = nested(LEAF, lambda tree: ("part", 1, 3, tree, LEAF), deep)
            for tree in (by_other, by_one):
                self.shows(BOTH_ON, "both", ENDS, (LEAST, tree))
            for bad in (None, (), tower(2), ("leaf", (1, 0, 0, 1), NONE, NONE, 1)):
                self.refuses(BOTH_ON, "both", ENDS, (LEAST, nested(bad, lambda tree: ("part", 0, 0, LEAF, tree), deep)))
                self.refuses(BOTH_ON, "both", ENDS, (LEAST, nested(bad, lambda tree: ("part", 0, 0, tree, LEAF), deep)))
        self.refuses(BOTH_ON, "both", ENDS, (LEAST, nested((), lambda tree: ("part", 0, 0, tree, tree), 38)))

    def test_one_place_otherwise(self):
        cases = [((f, kind, terms), least_size(f, kind, terms)) for n in (0, 1) for f in functions_by_number(n)
                 for kind in KINDS for terms in ((), ((),), tuple(sorted(subsets(n))))]
        papers = [(case, told) for case, told in cases if told is not None]
        papers.append(((BOTH_ON, "both", ENDS), (LEAST, ("part", 1, 1, LEAF, LEAF))))
        papers.append(((CUT_F, "odd", CUT_TERMS), (CUT_POLY, ("part", 0, -2, BELOW, ABOVE))))
        look_alike_otherwise(self, shows_size, is_sound_size, papers)

    def test_anything(self):
        for thing in STRANGE:
            self.refuses(BOTH_ON, "both", ENDS, thing)
            for filled in ((thing,) * 2, (thing, LEAF), (LEAST, thing), (LEAST, LEAF, thing), (("both", thing), LEAF),
                           (("both", (thing,)), LEAF), (LEAST, ("part", thing, 0, LEAF, LEAF)), (LEAST, (thing,) * 5),
                           (LEAST, ("part", 0, thing, LEAF, LEAF)), (LEAST, ("part", 0, 0, thing, LEAF)),
                           (LEAST, ("part", 0, 0, LEAF, thing)), (LEAST, ("leaf", thing, NONE, NONE, 1)),
                           (LEAST, ("leaf", (2, 0, 0, 1), thing, NONE, 1)), (LEAST, ("leaf", (2, 0, 0, 1), NONE, thing, 1)),
                           (LEAST, ("leaf", (2, 0, 0, 1), (thing, 0), NONE, 1)), (LEAST, LEAF[:4] + (thing,)),
                           (LEAST, ("leaf", (2, thing, 0, 1), NONE, NONE, 1)), [LEAST, LEAF]):
                self.assertIs(shows_size(BOTH_ON, "both", ENDS, filled), is_sound_size(BOTH_ON, "both", ENDS, filled))


if __name__ == "__main__":
    unittest.main()
