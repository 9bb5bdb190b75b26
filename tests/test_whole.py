"""What the document promises over the whole program: papers of one part taken by the lookers of another."""

import importlib
import inspect
import itertools
import random
import unittest

from samples import KINDS, choose, full_functions, functions_by_number, functions_of, some_terms, told_in
from signpoly.counts import by_counts, changes_of, counts_bar, counts_poly
from signpoly.degreelooks import shows_degree, shows_weak
from signpoly.degrees import least_degree, weak_degree
from signpoly.desk import Desk
from signpoly.exacts import exact_of
from signpoly.margins import margin_of, widest
from signpoly.moves import held, idle, left_out, opposite, renamed, turned
from signpoly.numbers import how_many, listed
from signpoly.polys import size_of
from signpoly.putting import put_degree, put_in, put_poly
from signpoly.reading import read_function, read_poly
from signpoly.showing import show_function, show_poly
from signpoly.signs import tells, told_by
from signpoly.sizes import least_size
from signpoly.splitlooks import is_bar
from signpoly.splits import solved, stands_on
from signpoly.sumlooks import shows_alone
from signpoly.sums import alone
from signpoly.terms import terms_to
from signpoly.thinning import is_thin, thinned
from signpoly.together import unlike, unlike_poly, unlike_weights

INTERFACE = """
errors: SignError OnNought NoText NoLine
functions: is_function/1 switches_of/1 told_rows/1
moves: opposite/1 turned/2 renamed/2 idle/2 held/3 left_out/2
rules: is_rule/1 switches_in/1 table_of/2
terms: terms_to/2 value_of/3
polys: is_poly/1 value_at/2 degree_of/1 size_of/1
reckoning: added/2 product_of/2 often/2 shrunk/1 moved/2 other_kind/1
signs: signs_of/2 noughts_of/2 told_by/2 tells/2
exacts: sum_by/3 exact_of/2 exact_degree/1
mosts: most_of/3
mostlooks: shows_most/4
splits: split_of/3 stands_on/3 solved/3
splitlooks: weighted/4 shows_split/4 is_bar/4 barred_to/2
thinning: thinned/4 is_thin/4
degrees: least_degree/2 weak_degree/2
degreelooks: shows_degree/3 shows_weak/3
margins: margin_of/2 widest/3
marginlooks: shows_widest/4
fews: fewest/2
fewlooks: shows_fewest/3
sizes: least_size/3
sizelooks: shows_size/4
counts: by_counts/1 counts_of/1 changes_of/1 counts_poly/1 counts_bar/1
together: unlike/2 unlike_poly/3 unlike_weights/2
putting: put_in/2 put_poly/2 put_degree/2
numbers: how_many/3 listed/3
sums: alone/3
sumlooks: shows_alone/4
showing: show_function/1 show_rule/1 show_poly/1
reading: read_function/1 read_rule/1 read_poly/1
desk: Desk/1
"""


class Interface(unittest.TestCase):
    def test_each_name_is_in_its_module(self):
        for row in INTERFACE.split("\n")[1:-1]:
            name, names = row.split(": ")
            module = importlib.import_module("signpoly." + name)
            for told in names.split(" "):
                called, slash, many = told.partition("/")
                thing = getattr(module, called)
                self.assertEqual(thing.__module__, "signpoly." + name)
                if slash:
                    self.assertEqual(len(inspect.signature(thing).parameters), int(many), called)
        self.assertEqual(len(inspect.signature(Desk("0").say).parameters), 1)


class Whole(unittest.TestCase):
    def test_counts_show_the_least_degree(self):
        for n in range(6):
            for row in itertools.product((0, 1), repeat=n + 1):
                paper = (changes_of(row), counts_poly(row), counts_bar(row))
                self.assertTrue(shows_degree(by_counts(row), "both", paper), row)

    def test_products_show_the_degrees_of_the_unlike(self):
        chance = random.Random(1)
        for n, m in ((0, 0), (0, 2), (1, 1), (1, 2), (2, 2), (3, 2), (3, 3)):
            for f, g in choose(chance, list(itertools.product(functions_of(n, 1), functions_of(m, 2))), 8):
                if not told_in(f) or not told_in(g):
                    continue
                for kind in KINDS:
                    ones = [tuple(0 if value is None else 1 for value in h) for h in (f, g)]
                    for find, shows in ((least_degree, shows_degree), (weak_degree, shows_weak)):
                        (one, first, left), (other, second, right) = find(f, kind), find(g, kind)
                        weights = unlike_weights(left or ones[0], right or ones[1]) if one + other else None
                        paper = (one + other, unlike_poly(n, first, second), weights)
                        self.assertTrue(shows(unlike(f, g), kind, paper), (f, g, paper))

    def test_put_in_is_told_by_the_put_polynomial(self):
        chance = random.Random(2)
        for n in range(4):
            for outer in choose(chance, full_functions(n), 6):
                parts = tuple(chance.choice(full_functions(chance.randint(0, 2))) for _ in range(n))
                degree, poly, bar = least_degree(outer, "odd")
                told = put_in(outer, parts)
                self.assertTrue(tells(put_poly(poly, parts), told))
                self.assertEqual(told_by(put_poly(poly, parts), len(told).bit_length() - 1), told)
                if len(told) <= 16:
                    self.assertLessEqual(least_degree(told, "both")[0], put_degree(poly, parts))

    def test_alone_as_many_as_are_counted(self):
        chance = random.Random(3)
        for n in range(3):
            for kind in KINDS:
                for terms in choose(chance, some_terms(n, chance), 5):
                    lone = [f for f in functions_by_number(n, (0, 1)) if alone(f, kind, terms)[0] == "alone"]
                    self.assertEqual(tuple(sorted(lone)), listed(n, kind, terms))
                    self.assertEqual(len(lone), how_many(n, kind, terms))

    def test_other_sums_and_bars_are_one_another(self):
        chance = random.Random(4)
        for n in range(4):
            for f in full_functions(n, 4):
                for kind in KINDS:
                    for terms in choose(chance, some_terms(n, chance), 3):
                        word, told = solved(f, kind, terms)
                        if word == "poly":
                            self.assertTrue(shows_alone(f, kind, terms, ("alone", told)))
                            continue
                        signs = [2 * value - 1 for value in f]
                        for bar in (told, thinned(f, kind, terms, told)):
                            self.assertIs(is_thin(f, kind, terms, thinned(f, kind, terms, bar)), True)
                            part = max(bar)
                            numbers = tuple(sign * (part - 2 * weight) for sign, weight in zip(signs, bar))
                            self.assertTrue(shows_alone(f, kind, terms, ("other", numbers, part)))
                        numbers, part = alone(f, kind, terms)[1:]
                        weights = tuple(part - sign * number for sign, number in zip(signs, numbers))
                        self.assertTrue(is_bar(f, kind, terms, weights))

    def test_the_desk_moves_as_the_functions_do(self):
        chance = random.Random(5)
        for f in functions_of(3, 5) + functions_of(4, 5):
            desk = Desk(show_function(f))
            least, weak = desk.say("degree"), desk.say("weak")
            n = len(f).bit_length() - 1
            for line in ("opposite", "turn a", "turn c", "opposite"):
                desk.say(line)
                self.assertEqual((desk.say("degree"), desk.say("weak")), (least, weak))
            order = list(range(n))
            chance.shuffle(order)
            for other in (renamed(f, tuple(order)), idle(f, 1) if n == 3 else f):
                again = Desk(show_function(other))
                self.assertEqual((again.say("degree"), again.say("weak")), (least, weak))
            for line in ("hold b 1", "out 0 1 3"):
                desk.say(line)
                self.assertLessEqual(int(desk.say("degree")), int(least))
            for _ in range(6):
                self.assertEqual(desk.say("back"), "done")
            self.assertEqual(desk.say("back"), "none")
            self.assertEqual(read_function(desk.say("function")), f)

    def test_the_desk_tells_one_thing_in_several_ways(self):
        for n in range(4):
            for f in functions_of(n, 6) + choose(random.Random(n), full_functions(n), 4):
                desk = Desk(show_function(f))
                for kind in KINDS:
                    degree = int(desk.say("degree"))
                    poly = desk.say("poly " + kind)
                    self.assertEqual(desk.say("tells " + poly), "yes")
                    self.assertTrue(all(int(row) not in [row for row, sign in told_in(f)]
                                        for row in desk.say("noughts " + poly).replace("none", "").split()))
                    for size in range(n + 1):
                        told = size >= degree
                        self.assertEqual(desk.say(f"stands {kind} {size}") == "none", told)
                        if None not in f:
                            self.assertEqual(desk.say(f"alone {kind} {size}"), "yes" if told else "no")
                        if told_in(f):
                            self.assertEqual(desk.say(f"margin {kind} {size}") != "0/1", told)
                        if len(terms_to(n, size)) <= 5:
                            self.assertEqual(desk.say(f"least {kind} {size}") != "none", told)
                    self.assertLessEqual(int(desk.say("few " + kind)), len(read_poly(poly)[1]))

    def test_sizes_margins_and_degrees_agree(self):
        chance = random.Random(7)
        for f in [f for f in functions_of(2, 7) + functions_of(3, 7) if told_in(f)]:
            n = len(f).bit_length() - 1
            for kind in KINDS:
                for terms in choose(chance, [terms for terms in some_terms(n, chance) if len(terms) < 6], 3):
                    least = least_size(f, kind, terms)
                    value = widest(f, kind, terms)[0]
                    self.assertIs(least is None, stands_on(f, kind, terms) != ())
                    self.assertIs(least is None, value == (0, 1))
                    if least is not None:
                        self.assertGreaterEqual(size_of(least[0]) * value[0], value[1])
                        top, bottom = margin_of(f, least[0])
                        self.assertLessEqual(top * value[1], value[0] * bottom)

    def test_what_is_told_is_written_and_read(self):
        for n in range(5):
            for f in full_functions(n, 8):
                for kind in KINDS:
                    for poly in (exact_of(f, kind), least_degree(f, kind)[1]):
                        self.assertEqual(read_poly(show_poly(poly)), poly)
                        self.assertEqual(Desk(show_function(f)).say("tells " + show_poly(poly)), "yes")

    def test_moves_of_the_desk_are_those_of_functions(self):
        f = (0, 1, None, 0, 1, 1, 0, None)
        for line, told in (("opposite", opposite(f)), ("turn b", turned(f, (1,))), ("hold c 1", held(f, 2, 1)),
                           ("out 3 3 0", left_out(f, (3, 0)))):
            desk = Desk(show_function(f))
            self.assertEqual(desk.say(line), "done")
            self.assertEqual(read_function(desk.say("function")), told)


if __name__ == "__main__":
    unittest.main()
