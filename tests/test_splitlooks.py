import random
import unittest

from samples import (KINDS, STRANGE, choose, functions_of, is_sound_bar, is_sound_split, look_alike_otherwise, some_terms,
                     strange_weights, subsets, term_value, told_in, told_twice, tower, weighted_sum)
from signpoly.reckoning import added, often, other_kind
from signpoly.splitlooks import barred_to, is_bar, shows_split, weighted
from signpoly.splits import solved, split_of
from signpoly.terms import terms_to

UNLIKE = (0, 1, 1, 0)
BOTH_ON = (0, 0, 0, 1)


def some_weights(f, chance, most=5):
    """Weights of the function, some of them 0, not all but where no row is told."""
    weights = [chance.choice((0, chance.randint(0, most))) if value is not None else 0 for value in f]
    for row, sign in told_in(f):
        if not any(weights):
            weights[row] = 1
    return tuple(weights)


def cases(most_switches, many, seed):
    """Functions with kinds and terms."""
    chance = random.Random(seed)
    for n in range(most_switches + 1):
        for f in functions_of(n, seed):
            for kind in KINDS:
                for terms in choose(chance, some_terms(n, chance), many):
                    yield f, kind, terms


class Weighted(unittest.TestCase):
    def test_written_out(self):
        f = (1, None, 0, 1)
        self.assertEqual(weighted(f, "both", (), (5, 0, 2, 4)), 7)
        self.assertEqual(weighted(f, "both", (0,), (5, 0, 2, 4)), 4)
        self.assertEqual(weighted(f, "both", (1,), (5, 0, 2, 4)), 2)
        self.assertEqual(weighted(f, "both", (0, 1), (5, 0, 2, 4)), 4)
        self.assertEqual(weighted(f, "odd", (), (5, 0, 2, 4)), 7)
        self.assertEqual(weighted(f, "odd", (0,), (5, 0, 2, 4)), -1)
        self.assertEqual(weighted(f, "odd", (1,), (5, 0, 2, 4)), 3)
        self.assertEqual(weighted(f, "odd", (0, 1), (5, 0, 2, 4)), 11)
        self.assertEqual(weighted((None,), "odd", (), (0,)), 0)
        self.assertEqual(weighted((0,), "both", (), (10 ** 30,)), -10 ** 30)

    def test_against_the_document(self):
        chance = random.Random(1)
        for n in range(7):
            for f in functions_of(n):
                weights = some_weights(f, chance, 10 ** 18)
                for term in choose(chance, subsets(n), 9):
                    for kind in KINDS:
                        told = told_twice(self, weighted, f, kind, term, weights)
                        self.assertEqual(told, weighted_sum(f, kind, term, weights))


class ShowsSplit(unittest.TestCase):
    def shows(self, f, kind, terms, thing):
        self.assertIs(shows_split(f, kind, terms, thing), True, (f, kind, terms, thing))

    def refuses(self, f, kind, terms, thing):
        self.assertIs(shows_split(f, kind, terms, thing), False, (f, kind, terms, thing))

    def test_written_out(self):
        to_one = terms_to(2, 1)
        self.shows(UNLIKE, "both", to_one, (("both", ()), (1, 1, 1, 1)))
        self.shows(UNLIKE, "both", to_one, (("both", ()), (7, 7, 7, 7)))
        self.shows(BOTH_ON, "both", to_one, (("both", (((), -3), ((0,), 2), ((1,), 2))), (0, 0, 0, 0)))
        self.refuses(BOTH_ON, "both", to_one, (("both", ()), (1, 1, 1, 1)))

    def test_a_row_at_nought_asks_for_a_weight(self):
        # By the switches alone row 0 is nought whatever the numbers; the others can be told.
        f = (0, 1, 1, 1)
        terms = ((0,), (1,))
        one = ("both", (((0,), 1), ((1,), 1)))
        self.shows(f, "both", terms, (one, (1, 0, 0, 0)))
        self.shows(f, "both", terms, (one, (5, 0, 0, 0)))
        self.shows(f, "both", terms, (("both", (((0,), 3), ((1,), 8))), (2, 0, 0, 0)))
        self.refuses(f, "both", terms, (one, (0, 0, 0, 0)))
        self.refuses(f, "both", terms, (("both", ()), (1, 0, 0, 0)))
        self.refuses(f, "both", terms, (("both", (((0,), 1),)), (1, 0, 0, 0)))
        self.refuses(f, "both", terms, (("both", (((0,), -1), ((1,), 1))), (1, 0, 0, 0)))
        self.refuses(f, "both", terms, (("both", (((0,), -1), ((1,), -1))), (1, 0, 0, 0)))
        self.refuses(f, "both", terms, (one, (1, 1, 0, 0)))
        self.refuses(f, "both", terms, (one, (-1, 0, 0, 0)))
        # Value and weight both not 0 at a row, all weighted sums 0.
        self.refuses((1, 0), "both", ((0,),), (("both", (((), 1), ((0,), -2))), (1, 0)))
        self.refuses((1,), "both", (), (("both", (((), 1),)), (1,)))
        self.shows((1,), "both", (), (("both", ()), (1,)))
        self.shows((1,), "both", ((),), (("both", (((), 1),)), (0,)))
        self.refuses((1,), "both", ((),), (("both", (((), 1),)), (1,)))

    def test_weights_that_come_to_something(self):
        self.refuses(UNLIKE, "both", terms_to(2, 1), (("both", ()), (1, 1, 1, 2)))
        self.refuses(UNLIKE, "both", terms_to(2, 1), (("both", ()), (2, 1, 1, 1)))
        self.refuses(UNLIKE, "odd", terms_to(2, 1), (("odd", ()), (1, 2, 1, 2)))
        self.shows(UNLIKE, "odd", terms_to(2, 1), (("odd", ()), (2, 2, 2, 2)))

    def test_rows_that_are_not_told(self):
        f = (None, 1, 1, 0)
        one = ("both", (((), 3), ((0,), -1), ((1,), -2)))
        for poly in (one, ("both", (((), -3), ((0,), 4), ((1,), 4), ((0, 1), -6)))):
            self.refuses(f, "both", terms_to(2, 1), (poly, (0, 0, 0, 0)))
        told = ("both", (((), 3), ((0,), -2), ((1,), -2)))
        self.shows(f, "both", terms_to(2, 1), (told, (0, 0, 0, 0)))
        self.refuses(f, "both", terms_to(2, 1), (told, (1, 0, 0, 0)))
        self.refuses(f, "both", (), (("both", ()), (1, 1, 1, 1)))
        self.shows(f, "both", (), (("both", ()), (0, 1, 1, 1)))
        nothing = (None, None)
        self.shows(nothing, "odd", ((), (0,)), (("odd", ()), (0, 0)))
        self.shows(nothing, "odd", ((), (0,)), (("odd", (((0,), -8),)), (0, 0)))
        self.refuses(nothing, "odd", ((), (0,)), (("odd", ()), (0, 1)))

    def test_other_kinds_and_terms(self):
        f = (1, 1)
        self.shows(f, "odd", ((),), (("odd", (((), 1),)), (0, 0)))
        self.refuses(f, "odd", ((),), (("both", (((), 1),)), (0, 0)))
        self.refuses(f, "both", ((),), (("odd", (((), 1),)), (0, 0)))
        self.refuses(f, "odd", ((),), (("odd", (((), 2), ((0,), 1))), (0, 0)))
        self.shows(f, "odd", ((), (0,)), (("odd", (((), 2), ((0,), 1))), (0, 0)))
        self.refuses(f, "odd", ((), (0,)), (("odd", (((), 2), ((1,), 1))), (0, 0)))
        self.refuses(f, "odd", ((), (0,)), (("odd", (((0,), 1), ((), 2))), (0, 0)))
        self.refuses((1,), "odd", ((),), (("odd", (((), 2), ((0,), 1))), (0,)))

    def test_too_many_or_too_few_weights(self):
        one = ("odd", (((), 1),))
        for weights in ((), (0,), (0, 0, 0), (0, 0, 0, 0)):
            self.refuses((1, 1), "odd", ((),), (one, weights))
        self.refuses((1, 1), "odd", ((),), (one, (0, -1)))
        self.refuses((1, 1), "odd", ((),), (one, [0, 0]))
        self.refuses((1, 1), "odd", ((),), (one, (0, False)))

    def test_what_is_told_and_others(self):
        for f, kind, terms in cases(4, 3, 7):
            poly, weights = split_of(f, kind, terms)
            for number in (1, 2, 10 ** 25):
                self.shows(f, kind, terms, (often(poly, number), weights))
                self.shows(f, kind, terms, (poly, tuple(number * weight for weight in weights)))
            size = max([len(term) for term in terms], default=0)
            if terms == terms_to(len(f).bit_length() - 1, size):
                across = "both" if kind == "odd" else "odd"
                self.shows(f, across, terms, (other_kind(poly), weights))
                one = split_of(f, across, terms)
                self.shows(f, across, terms, (added(other_kind(poly), one[0]), one[1]))
                self.shows(f, kind, terms, (poly, tuple(5 * left + right for left, right in zip(weights, one[1]))))

    def test_what_is_told_with_one_place_otherwise(self):
        look_alike_otherwise(self, shows_split, is_sound_split, [(case, split_of(*case)) for case in cases(2, 3, 8)])

    def test_chance_things(self):
        chance = random.Random(9)
        told = {True: 0, False: 0}
        for _ in range(3000):
            f, kind, terms = chance.choice(CASES)
            parts = tuple((term, chance.choice((-1, 1))) for term in terms if chance.random() < 0.4)
            thing = ((kind, parts), chance.choice(((0,) * len(f), some_weights(f, chance, 1))))
            shown = shows_split(f, kind, terms, thing)
            self.assertIs(shown, is_sound_split(f, kind, terms, thing))
            told[shown] += 1
        self.assertGreater(told[True], 100)
        self.assertGreater(told[False], 1000)

    def test_anything(self):
        for f, kind, terms in (((1,), "odd", ((),)), ((1, None), "both", ()), ((None,), "both", ((),))):
            for thing in STRANGE:
                self.refuses(f, kind, terms, thing)
                for filled in ((thing, thing), (thing,), ((kind, ()), thing), (thing, (0,) * len(f)),
                               ((kind, (thing,)), (0,) * len(f)), ((kind, ((thing, 1),)), (0,) * len(f)),
                               ((kind, (((), thing),)), (0,) * len(f)), ((kind, ()), (thing,) * len(f)),
                               ((thing, ()), (0,) * len(f)), ((kind, thing), (0,) * len(f)), ((kind, ()), thing, thing)):
                    self.assertIs(shows_split(f, kind, terms, filled), is_sound_split(f, kind, terms, filled), filled)

    def test_the_same_again(self):
        for f, kind, terms in cases(2, 1, 10):
            self.assertIs(told_twice(self, shows_split, f, kind, terms, split_of(f, kind, terms)), True)


class Bars(unittest.TestCase):
    def test_written_out(self):
        to_one = terms_to(2, 1)
        for kind in KINDS:
            self.assertIs(is_bar(UNLIKE, kind, to_one, (1, 1, 1, 1)), True)
            self.assertIs(is_bar(UNLIKE, kind, to_one, (10 ** 40,) * 4), True)
            self.assertIs(is_bar(UNLIKE, kind, to_one, (0, 0, 0, 0)), False)
            self.assertIs(is_bar(UNLIKE, kind, to_one, (1, 1, 1, 2)), False)
            self.assertIs(is_bar(UNLIKE, kind, to_one, (-1, -1, -1, -1)), False)
            self.assertIs(is_bar(UNLIKE, kind, terms_to(2, 2), (1, 1, 1, 1)), False)
            self.assertIs(is_bar(BOTH_ON, kind, to_one, (1, 1, 1, 1)), False)
            self.assertIs(is_bar(BOTH_ON, kind, ((),), (1, 1, 1, 3)), True)
            self.assertIs(is_bar(BOTH_ON, kind, ((),), (1, 0, 0, 1)), True)
            self.assertIs(is_bar((None, 0, 0, 1), kind, ((),), (1, 1, 0, 1)), False)
            self.assertIs(is_bar((None, 0, 0, 1), kind, ((),), (0, 1, 0, 1)), True)
            self.assertIs(is_bar((None,), kind, (), (0,)), False)
            self.assertIs(is_bar((0,), kind, (), (1,)), True)
            self.assertIs(is_bar((0,), kind, ((),), (1,)), False)
        self.assertIs(is_bar((0, 1), "both", ((0,),), (1, 0)), True)
        self.assertIs(is_bar((0, 1), "odd", ((0,),), (1, 0)), False)

    def test_one_place_otherwise(self):
        answers = [(case, solved(*case)) for case in cases(3, 3, 11)]
        look_alike_otherwise(self, is_bar, is_sound_bar, [(case, answer[1]) for case, answer in answers])
        for case, answer in answers:
            self.assertIs(told_twice(self, is_bar, *case, answer[1]), answer[0] == "bar")
            self.assertIs(is_bar(*case, (0,) * len(case[0])), False)

    def test_anything(self):
        for f, kind, terms in (((1,), "odd", ()), ((1, None), "both", ()), ((1, 0), "odd", ((),)), ((None,), "both", ())):
            for thing in strange_weights():
                self.assertIs(is_bar(f, kind, terms, thing), is_sound_bar(f, kind, terms, thing), thing)
        self.assertIs(is_bar((1,) * 64, "odd", (), tower(6)), False)
        self.assertIs(is_bar((1,) * 64, "odd", (), (0,) * 63 + (1,)), True)


class BarredTo(unittest.TestCase):
    def test_written_out(self):
        self.assertEqual(barred_to(UNLIKE, (1, 1, 1, 1)), 2)
        self.assertEqual(barred_to(UNLIKE, (1, 1, 1, 2)), 0)
        self.assertEqual(barred_to(UNLIKE, (1, 1, 0, 0)), 1)
        self.assertEqual(barred_to(BOTH_ON, (1, 1, 1, 3)), 1)
        self.assertEqual(barred_to((1,), (5,)), 0)
        unlike_six = tuple(bin(row).count("1") % 2 for row in range(64))
        self.assertEqual(barred_to(unlike_six, (3,) * 64), 6)
        self.assertEqual(barred_to(unlike_six, (3,) * 63 + (4,)), 0)

    def test_against_the_document(self):
        chance = random.Random(12)
        found = []
        for f, kind, terms in cases(4, 3, 13):
            if not told_in(f):
                continue
            answer = solved(f, kind, terms)
            weights = answer[1] if answer[0] == "bar" else some_weights(f, chance)
            told = told_twice(self, barred_to, f, weights)
            for by in KINDS:
                sizes = [len(term) for term in subsets(len(f).bit_length() - 1) if weighted_sum(f, by, term, weights) != 0]
                self.assertEqual(told, min(sizes))
            found.append(told)
        for size in range(3):
            self.assertIn(size, found)

    def test_weights_of_each_size(self):
        for n in range(5):
            for term in subsets(n):
                # Yes where an odd number of the term's switches is on: by weights alike all other terms come to nought.
                f = tuple(int(term_value("odd", term, row) < 0) for row in range(2 ** n))
                self.assertEqual(barred_to(f, (1,) * 2 ** n), len(term))


CASES = list(cases(2, 3, 14))


if __name__ == "__main__":
    unittest.main()
