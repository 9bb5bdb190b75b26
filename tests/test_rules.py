import random
import unittest

from samples import STRANGE, Prickly, nested, on, told_twice, tower
from signpoly.functions import is_function
from signpoly.rules import is_rule, switches_in, table_of

A, B, C = ("switch", 0), ("switch", 1), ("switch", 2)
WORDS = ("all", "any", "odd")
NO_RULES = STRANGE + ["switch", ["switch", 0], ("switch", 6), ("switch", -1), ("switch",), (A,), (A, A), ("a", A),
                      ("Not", A), ("NOT", A), ("", A), ("none", ()), ("and", (A,)), (b"not", A), (0, A), (None, A)]


def holds(rule, row):
    """The meaning of each word, as the document says it."""
    if rule[0] == "switch":
        return on(row, rule[1])
    if rule[0] == "not":
        return not holds(rule[1], row)
    many = [holds(part, row) for part in rule[-1]].count(True)
    if rule[0] == "least":
        return many >= rule[1]
    return {"all": many == len(rule[-1]), "any": many >= 1, "odd": many % 2 == 1}[rule[0]]


def has(rule, k):
    if rule[0] == "switch":
        return rule[1] == k
    if rule[0] == "not":
        return has(rule[1], k)
    return any(has(part, k) for part in rule[-1])


def some_rule(chance, deep, switches):
    word = chance.choice(("switch", "not", "all", "any", "odd", "least"))
    if word == "switch" or deep == 1:
        return ("switch", chance.choice(switches)) if switches else (chance.choice(WORDS), ())
    if word == "not":
        return ("not", some_rule(chance, deep - 1, switches))
    parts = tuple(some_rule(chance, deep - 1, switches) for _ in range(chance.randrange(4)))
    return ("least", chance.randrange(5), parts) if word == "least" else (word, parts)


def some_rules(switches, many=120):
    chance = random.Random(len(switches))
    made = [some_rule(chance, chance.randrange(1, 6), switches) for _ in range(many)]
    return [rule for rule in made if is_rule(rule)]


class IsRule(unittest.TestCase):
    def yes(self, thing):
        self.assertIs(told_twice(self, is_rule, thing), True, thing)

    def no(self, thing):
        self.assertIs(is_rule(thing), False)
        self.assertIs(is_rule(thing), False)

    def test_each_word(self):
        for k in range(6):
            self.yes(("switch", k))
        self.yes(("not", A))
        for word in WORDS:
            for many in range(7):
                self.yes((word, (A,) * many))
        for many in range(7):
            self.yes(("least", 2, (A,) * many))

    def test_numbers_of_switches(self):
        for k in (6, -1, 7, True, False, None, "0", "a", (0,), [0], (), 10 ** 20, Prickly()):
            self.no(("switch", k))

    def test_numbers_of_least(self):
        for m in range(10):
            self.yes(("least", m, ()))
            self.yes(("least", m, (A, B)))
        for m in (10, -1, True, False, None, "1", (1,), [], 10 ** 20, Prickly()):
            self.no(("least", m, ()))
            self.no(("least", m, (A, B)))

    def test_a_part_lacking_or_one_more(self):
        self.no(())
        self.no(("switch",))
        self.no(("switch", 0, 0))
        self.no(("not",))
        self.no(("not", A, A))
        for word in WORDS:
            self.no((word,))
            self.no((word, (A,), (A,)))
            self.no((word, 1, (A,)))
        self.no(("least",))
        self.no(("least", 1))
        self.no(("least", (A,)))
        self.no(("least", (A,), 1))
        self.no(("least", 1, (A,), (A,)))

    def test_a_part_of_another_kind(self):
        for other in NO_RULES:
            self.no(("not", other))
            for word in WORDS:
                self.no((word, (other,)))
                self.no((word, (A, other, B)))
            self.no(("least", 1, (other,)))
            self.no(("least", 1, (A, B, other)))

    def test_what_stands_in_the_place_of_the_rules(self):
        for other in STRANGE + [A, [A, B], {0: A}, "", "ab", 0, None]:
            if isinstance(other, tuple) and len(other) == 0:
                continue
            for word in WORDS:
                self.no((word, other))
            self.no(("least", 1, other))
        self.no(("not", (A,)))
        self.no(("not", ()))

    def test_the_word_of_another_kind(self):
        for other in STRANGE:
            if isinstance(other, str) and other == "switch":
                continue
            self.no((other, 0))
            self.no((other, A))
            self.no((other, (A,)))
            self.no((other, 1, (A,)))
        for word in ("", "Switch", "switches", "nor", "ALL", "some", "xor", "at least", "not ", " any"):
            self.no((word, 0))
            self.no((word, A))
            self.no((word, (A,)))
            self.no((word, 1, (A,)))

    def test_six_rules_and_seven(self):
        for word in WORDS:
            self.yes((word, (A,) * 6))
            self.no((word, (A,) * 7))
        self.yes(("least", 6, (A,) * 6))
        self.no(("least", 6, (A,) * 7))

    def test_six_deep_and_seven(self):
        wraps = [lambda inner: ("not", inner), lambda inner: ("least", 1, (A, inner))]
        wraps += [lambda inner, word=word: (word, (inner, B)) for word in WORDS]
        for wrap in wraps:
            for innermost in (A, ("any", ()), ("least", 3, ())):
                for times in range(6):
                    self.yes(nested(innermost, wrap, times))
                self.no(nested(innermost, wrap, 6))
                self.no(nested(innermost, wrap, 7))
                self.no(nested(innermost, wrap, 19))
        # Too deep in a part that isn't the first.
        self.yes(("all", (A, nested(A, wraps[0], 4))))
        self.no(("all", (A, nested(A, wraps[0], 5))))

    def test_forty_rules_and_forty_one(self):
        row = ("any", (A,) * 6)
        thirty_six = ("all", (row,) * 5)
        self.yes(thirty_six)
        # One, five times seven, three and one make forty.
        forty = ("all", (row,) * 5 + (("odd", (A, B, C)),))
        self.yes(forty)
        self.no(("all", (row,) * 5 + (("odd", (A, B, C, A)),)))
        self.no(("not", forty))
        self.yes(("not", ("all", (row,) * 5 + (("odd", (A, B)),))))
        self.no(("all", (row,) * 6))

    def test_lists_in_the_place_of_tuples(self):
        self.no(["switch", 0])
        self.no(["not", A])
        self.no(("not", ["switch", 0]))
        self.no(("all", [A, B]))
        self.no(("all", []))
        self.no(["all", (A,)])
        self.no(("least", 1, [A]))
        self.no(["least", 1, (A,)])

    def test_things_of_other_kinds(self):
        for thing in STRANGE:
            self.no(thing)

    def test_things_nested_forty_deep(self):
        self.no(nested(A, lambda inner: ("not", inner), 39))
        self.no(nested(("any", ()), lambda inner: ("any", (inner,) * 6), 19))
        self.no(("any", (tower(38),)))
        self.no(nested(A, lambda inner: ("all", inner), 39))
        self.no(nested(A, lambda inner: (inner,), 39))


class Tables(unittest.TestCase):
    def check(self, rule, n):
        table = told_twice(self, table_of, rule, n)
        self.assertTrue(is_function(table))
        self.assertEqual(table, tuple(1 if holds(rule, row) else 0 for row in range(2 ** n)))

    def test_tables_written_out(self):
        self.assertEqual(table_of(A, 1), (0, 1))
        self.assertEqual(table_of(B, 2), (0, 0, 1, 1))
        self.assertEqual(table_of(("not", A), 1), (1, 0))
        self.assertEqual(table_of(("all", (A, B)), 2), (0, 0, 0, 1))
        self.assertEqual(table_of(("any", (A, B)), 2), (0, 1, 1, 1))
        self.assertEqual(table_of(("odd", (A, B)), 2), (0, 1, 1, 0))
        self.assertEqual(table_of(("odd", (A, B, C)), 3), (0, 1, 1, 0, 1, 0, 0, 1))
        self.assertEqual(table_of(("least", 2, (A, B, C)), 3), (0, 0, 0, 1, 0, 1, 1, 1))

    def test_rules_of_no_rules(self):
        for n in range(7):
            rows = 2 ** n
            self.assertEqual(table_of(("all", ()), n), (1,) * rows)
            self.assertEqual(table_of(("any", ()), n), (0,) * rows)
            self.assertEqual(table_of(("odd", ()), n), (0,) * rows)
            self.assertEqual(table_of(("least", 0, ()), n), (1,) * rows)
            self.assertEqual(table_of(("least", 1, ()), n), (0,) * rows)
            self.assertEqual(table_of(("not", ("any", ())), n), (1,) * rows)

    def test_each_rule_by_its_meaning(self):
        for switches in ((), (0,), (0, 1), (1, 2), (0, 1, 2, 3), (0, 2, 5)):
            for rule in some_rules(switches):
                needed = max(switches_in(rule), default=-1) + 1
                for n in {needed, min(needed + 1, 6)}:
                    self.check(rule, n)

    def test_each_least(self):
        six = tuple(("switch", k) for k in range(6))
        for m in range(10):
            self.check(("least", m, six), 6)
            self.check(("least", m, (A, A, ("not", B))), 2)
            self.check(("not", ("least", m, six[:4])), 6)

    def test_the_same_rule_twice_counts_twice(self):
        self.assertEqual(table_of(("odd", (A, A)), 1), (0, 0))
        self.assertEqual(table_of(("least", 2, (A, A)), 1), (0, 1))

    def test_switches_in(self):
        self.assertEqual(switches_in(("switch", 5)), (5,))
        self.assertEqual(switches_in(("not", C)), (2,))
        self.assertEqual(switches_in(("any", ())), ())
        self.assertEqual(switches_in(("least", 4, ())), ())
        self.assertEqual(switches_in(("least", 4, (C, B))), (1, 2))
        self.assertEqual(switches_in(("all", (C, A, ("not", C), ("odd", (B, A))))), (0, 1, 2))
        for switches in ((), (0,), (3, 1), (0, 1, 2, 3), (5, 2, 0)):
            for rule in some_rules(switches):
                expected = tuple(k for k in range(6) if has(rule, k))
                self.assertEqual(told_twice(self, switches_in, rule), expected)


if __name__ == "__main__":
    unittest.main()
