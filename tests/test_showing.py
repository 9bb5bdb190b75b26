import unittest

from samples import KINDS, functions_by_number, functions_of, nested, polys_of, some_rules, told_twice
from signpoly.reading import read_function, read_poly, read_rule
from signpoly.reckoning import often, product_of
from signpoly.rules import is_rule
from signpoly.showing import show_function, show_poly, show_rule

A, B, C, D = [("switch", k) for k in range(4)]


FORTY = ("all", (("any", (A,) * 6),) * 5 + (("odd", (B, B, B)),))


class ShowFunction(unittest.TestCase):
    def test_written_out(self):
        self.assertEqual(show_function((0, 1, None, 0)), "01-0")
        self.assertEqual([show_function((value,)) for value in (1, 0, None)], ["1", "0", "-"])

    def test_there_and_back(self):
        for n in range(7):
            for f in functions_by_number(n) if n < 3 else functions_of(n):
                text = told_twice(self, show_function, f)
                self.assertEqual(text, "".join({1: "1", 0: "0", None: "-"}[value] for value in f))
                self.assertEqual(told_twice(self, read_function, text), f)


class ShowRule(unittest.TestCase):
    def test_written_out(self):
        self.assertEqual([show_rule(("switch", k)) for k in range(6)], list("abcdef"))
        self.assertEqual(show_rule(("any", (A, ("not", B), ("least", 2, (A, C, D))))), "|(a !b 2(a c d))")
        self.assertEqual(show_rule(("all", ())), "&()")
        self.assertEqual(show_rule(("any", ())), "|()")
        self.assertEqual(show_rule(("odd", ())), "^()")
        self.assertEqual(show_rule(("not", ("not", A))), "!!a")
        self.assertEqual([show_rule(("least", m, ())) for m in range(10)], [f"{m}()" for m in range(10)])
        self.assertEqual(show_rule(("odd", (A,))), "^(a)")

    def test_there_and_back(self):
        for rule in some_rules(1, 400):
            text = told_twice(self, show_rule, rule)
            self.assertEqual(told_twice(self, read_rule, text), rule)

    def test_at_the_bounds(self):
        deep = nested(A, lambda rule: ("not", rule), 5)
        wide = nested(("odd", ()), lambda rule: ("any", (rule,)), 5)
        for rule in (deep, wide, FORTY, ("all", (A, B) * 3), nested(A, lambda rule: ("least", 9, (rule,)), 5)):
            self.assertTrue(is_rule(rule))
            self.assertEqual(read_rule(show_rule(rule)), rule)


class ShowPoly(unittest.TestCase):
    def test_written_out(self):
        self.assertEqual(show_poly(("both", (((), 3), ((0, 1), -2), ((2,), 1)))), "both 3 -2ab c")
        for kind in KINDS:
            self.assertEqual(show_poly((kind, ())), kind + " 0")
            for number, alone, ahead in ((1, "1", ""), (-1, "-1", "-"), (10, "10", "10"), (-10, "-10", "-10")):
                self.assertEqual(show_poly((kind, (((), number),))), f"{kind} {alone}")
                self.assertEqual(show_poly((kind, (((0, 5), number),))), f"{kind} {ahead}af")
        self.assertEqual(show_poly(("odd", (((), -1), ((0,), -1), ((0, 1, 2, 3, 4, 5), 1)))), "odd -1 -a abcdef")

    def test_there_and_back(self):
        for kind in KINDS:
            for greatest in (1, 3, 10 ** 18, 10 ** 60 - 1):
                for n in range(7):
                    for poly in polys_of(kind, n, 6, greatest):
                        text = told_twice(self, show_poly, poly)
                        self.assertEqual(told_twice(self, read_poly, text), poly)

    def test_each_number(self):
        for number in [0, 1, 9, 10, 99] + [10 ** k + step for k in range(60) for step in (-1, 0, 1)]:
            for signed in (number, -number):
                for term in ((), (1,), (0, 3)):
                    if signed == 0:
                        continue
                    text = show_poly(("odd", ((term, signed),)))
                    letters = "".join("abcdef"[k] for k in term)
                    written = str(signed) if not letters or abs(signed) != 1 else str(signed)[:-1]
                    self.assertEqual(text, "odd " + written + letters)
                    if number < 10 ** 60:
                        self.assertEqual(read_poly(text), ("odd", ((term, signed),)))

    def test_numbers_of_any_size_that_were_told(self):
        # Python's own writing of numbers stops at some thousand figures.
        poly = often(("both", (((0,), 1),)), 10 ** 19)
        for _ in range(9):
            poly = product_of(poly, poly)
        self.assertEqual(show_poly(poly), "both 1" + "0" * (19 * 2 ** 9) + "a")
        self.assertEqual(show_poly(often(poly, -7)), "both -7" + "0" * (19 * 2 ** 9) + "a")

    def test_no_two_alike(self):
        every = [()] + [((term, number),) for term in ((), (0,), (0, 1), (1,)) for number in (-2, -1, 1, 2, 12)]
        texts = [show_poly((kind, parts)) for kind in KINDS for parts in every]
        self.assertEqual(len(set(texts)), len(texts))
        texts = [show_rule(rule) for rule in some_rules(2, 300)]
        self.assertEqual(len(set(texts)), len(set(some_rules(2, 300))))


if __name__ == "__main__":
    unittest.main()
