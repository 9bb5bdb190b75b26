import itertools
import random
import re
import unittest

from samples import KINDS, STRANGE, nested, polys_of, some_rules, subsets, told_twice, tower
from signpoly.errors import NoText, SignError
from signpoly.functions import is_function
from signpoly.polys import is_poly
from signpoly.reading import read_function, read_poly, read_rule
from signpoly.rules import is_rule
from signpoly.showing import show_function, show_poly, show_rule

# Signs that count as figures, blanks or letters elsewhere.
STRANGE_SIGNS = ["\u00b2", "\u0661", "\uff11", "\u00bd", "\u2160", "\u00a0", "\u2003", "\t", "\n", "\r", "\x00", "\u2212",
                 "\u0430", "\uff41", "\ud800", "\U0001d7cf", "\u0301", "\u202f", "\u00aa", "A", "F", "g", "z", "_", "+", ".", ","]
NOT_TEXTS = [thing for thing in STRANGE if not isinstance(thing, str)] + [
    b"01", b"a", b"both 0", bytearray(b"01"), ["0", "1"], ("0", "1"), ["a"], ("switch", 0), (0, 1), ("both", ()), {"a": "a"},
    {"0"}, True, False, None, 0, 1, 10 ** 40, nested("a", lambda inner: [inner], 40), nested("0", lambda inner: (inner,), 40),
    tower(40), [["a"]]]


def others(text, chance, signs):
    """Texts that are a sign more, a sign fewer or a sign otherwise."""
    for place in range(len(text) + 1):
        for sign in signs:
            yield text[:place] + sign + text[place:]
            yield text[:place] + sign + text[place + 1:]
        yield text[:place] + text[place + 1:]
        yield text[:place] + text[place:place + 1] * 2 + text[place + 1:]
        yield text[:place]
        yield text[place:]
        yield text[:place] + chance.choice(STRANGE_SIGNS) + text[place:]
        yield text[:place] + chance.choice(STRANGE_SIGNS) + text[place + 1:]


class Reading(unittest.TestCase):
    def refuses(self, read, thing):
        try:
            told = read(thing)
        except SignError as error:
            self.assertIs(type(error), NoText)
            return
        self.fail(f"{thing!r} is read as {told!r}")

    def holds(self, read, show, sound, text):
        """Whether the text is read; it is just where it is what is written by what is read."""
        try:
            told = read(text)
        except NoText:
            return False
        self.assertTrue(sound(told), text)
        self.assertEqual(show(told), text)
        return True


class ReadAnything(Reading):
    def test_things_that_are_no_texts(self):
        for read in (read_function, read_rule, read_poly):
            for thing in NOT_TEXTS:
                self.refuses(read, thing)
                for around in ((thing,), [thing], {0: thing}):
                    self.refuses(read, around)

    def test_strange_signs(self):
        for read, texts in ((read_function, ("01", "0")), (read_rule, ("a", "&(a b)")), (read_poly, ("both 1 -2ab", "odd 0"))):
            for text in texts:
                read(text)
                for sign in STRANGE_SIGNS:
                    for place in range(len(text) + 1):
                        self.refuses(read, text[:place] + sign + text[place:])
                        if place < len(text):
                            self.refuses(read, text[:place] + sign + text[place + 1:])
                self.refuses(read, " " + text)
                self.refuses(read, text + " ")
                self.refuses(read, text + "\n")
                self.refuses(read, "\n" + text)
                self.refuses(read, '"' + text + '"')
            self.refuses(read, "")
            self.refuses(read, " ")


class ReadFunction(Reading):
    def test_each_length(self):
        for many in range(131):
            if many in (1, 2, 4, 8, 16, 32, 64):
                self.assertEqual(told_twice(self, read_function, "1" * many), (1,) * many)
                self.assertEqual(read_function("-" * many), (None,) * many)
            else:
                self.refuses(read_function, "1" * many)
                self.refuses(read_function, "-" * many)
        self.refuses(read_function, "1" * 128)
        self.refuses(read_function, "01-")
        self.refuses(read_function, "01-01")

    def test_each_text_of_few_signs(self):
        for many in range(5):
            for signs in itertools.product("01-2 aN", repeat=many):
                text = "".join(signs)
                written = many in (1, 2, 4) and set(text) <= set("01-")
                self.assertIs(self.holds(read_function, show_function, is_function, text), written, text)

    def test_written_out(self):
        self.assertEqual(read_function("01-0"), (0, 1, None, 0))
        for text in ("0 1", "01 ", " 01", "2", "--1", "None", "0,1", "+1", "01-0\n", "0\n", "01\x00", "O1"):
            self.refuses(read_function, text)


class ReadRule(Reading):
    def test_each_text_of_few_signs(self):
        # Which texts are rules, told by length: rules, and rules with blanks between.
        written = {1: set("ab")}
        rows = {1: set("ab")}
        for many in range(2, 7):
            found = {"!" + text for text in written[many - 1]}
            found |= {sign + "()" for sign in "&2" if many == 3}
            found |= {sign + "(" + text + ")" for sign in "&2" for text in rows.get(many - 3, ())}
            written[many] = found
            rows[many] = found | {text + " " + rest for size in range(1, many - 1) for text in written[size]
                                  for rest in rows.get(many - 1 - size, ())}
        for many in range(7):
            for signs in itertools.product("ab!&2() ", repeat=many):
                text = "".join(signs)
                told = self.holds(read_rule, show_rule, is_rule, text)
                if told is not (text in written.get(many, ())):
                    self.fail(text)
        self.assertIn("&(a b)", written[6])

    def test_texts_a_sign_otherwise(self):
        chance = random.Random(4)
        told = {True: 0, False: 0}
        for rule in some_rules(3, 60):
            text = show_rule(rule)
            for other in others(text, chance, "aF!&|^09() ,") if len(text) < 60 else ():
                told[self.holds(read_rule, show_rule, is_rule, other)] += 1
        self.assertGreater(min(told.values()), 1000)

    def test_written_out(self):
        self.assertEqual(read_rule("|(a !b 2(a c d))"),
                         ("any", (("switch", 0), ("not", ("switch", 1)),
                                  ("least", 2, (("switch", 0), ("switch", 2), ("switch", 3))))))
        self.assertEqual(read_rule("&()"), ("all", ()))
        self.assertEqual(read_rule("^(f)"), ("odd", (("switch", 5),)))
        self.assertEqual(read_rule("0()"), ("least", 0, ()))
        self.assertEqual(read_rule("9(a)"), ("least", 9, (("switch", 0),)))
        for text in ("ab", "a b", "!", "!!", "&", "&(", "&)", "&a", "(a)", "&(a", "&(a ", "&(a b", "&a)", "&(a))", "&( a)",
                     "&(a )", "&(a  b)", "&( )", "&(a,b)", "&(ab)", "& (a)", "! a", "10(a)", "00()", "-1()", "+1()", "()",
                     "g", "A", "!(a)", "&()()", "&() ", "2", "2(", "1 (a)", "&(a)b", "&&(a)", "&(!)", "&(a !)", "~a", "a\n",
                     "&(a\nb)", "&(a\tb)", "switch 0", "&[a]", "*(a)"):
            self.refuses(read_rule, text)

    def test_at_the_bounds(self):
        self.assertTrue(is_rule(read_rule("!" * 5 + "a")))
        self.refuses(read_rule, "!" * 6 + "a")
        self.refuses(read_rule, "!" * 100000 + "a")
        self.assertTrue(is_rule(read_rule("&(" * 5 + "a" + ")" * 5)))
        self.assertTrue(is_rule(read_rule("&(" * 5 + "|()" + ")" * 5)))
        self.refuses(read_rule, "&(" * 6 + "a" + ")" * 6)
        self.refuses(read_rule, "&(" * 6 + ")" * 6 + "a")
        self.refuses(read_rule, "&(" * 100000)
        self.refuses(read_rule, "&(" * 5 + "|(" + "a" + ")" * 6)
        self.assertTrue(is_rule(read_rule("&(a a a a a a)")))
        self.refuses(read_rule, "&(a a a a a a a)")
        self.refuses(read_rule, "&(" + "a " * 100000 + "a)")
        six = "^(a a a a a a)"
        forty = f"&({six} {six} {six} {six} {six} |(b b b))"
        self.assertTrue(is_rule(read_rule(forty)))
        self.refuses(read_rule, forty[:-1] + " b)")
        self.refuses(read_rule, forty[:-2] + " b))")
        self.refuses(read_rule, "!" + forty)
        self.refuses(read_rule, f"&({six} {six} {six} {six} {six} {six})")


def is_written_poly(text):
    """Whether a text is just so written by a polynomial, told apart from the program."""
    found = re.fullmatch(r"(both|odd)((?: [-0-9a-f]+)+)", text, re.ASCII)
    if not found or text.endswith("\n"):
        return False
    words = found[2][1:].split(" ")
    if words == ["0"]:
        return True
    ahead = None
    for word in words:
        part = re.fullmatch(r"(-?)([1-9][0-9]{0,59})?(a?b?c?d?e?f?)", word, re.ASCII)
        if not part or (not part[2] and not part[3]) or (part[2] == "1" and part[3]):
            return False
        term = tuple("abcdef".index(letter) for letter in part[3])
        if ahead is not None and not ahead < term:
            return False
        ahead = term
    return True


class ReadPoly(Reading):
    def check(self, text):
        told = self.holds(read_poly, show_poly, is_poly, text)
        if told is not is_written_poly(text):
            self.fail(repr(text))
        return told

    def test_each_text_of_few_signs(self):
        for many in range(7):
            for signs in itertools.product("01-ab ", repeat=many):
                for kind in ("both", "odd ") if many < 5 else ("both ",):
                    self.check(kind + "".join(signs))

    def test_texts_a_sign_otherwise(self):
        chance = random.Random(5)
        told = {True: 0, False: 0}
        for kind in KINDS:
            for poly in polys_of(kind, 3, 8, 12) + polys_of(kind, 6, 8, 2):
                text = show_poly(poly)
                for other in others(text, chance, "0129-abf +") if len(text) < 70 else ():
                    told[self.check(other)] += 1
        self.assertGreater(min(told.values()), 1000)

    def test_words_in_other_orders(self):
        for poly in (("both", (((), 3), ((0, 1), -2), ((2,), 1))), ("odd", (((0,), 1), ((0, 1), 1), ((0, 2), -1), ((1,), 5)))):
            words = show_poly(poly).split(" ")[1:]
            for many in range(len(words) + 2):
                for some in itertools.product(words, repeat=many):
                    told = self.check(poly[0] + "".join(" " + word for word in some))
                    self.assertIs(told, many > 0 and list(some) == [word for word in words if word in some])

    def test_written_out(self):
        self.assertEqual(read_poly("both 3 -2ab c"), ("both", (((), 3), ((0, 1), -2), ((2,), 1))))
        self.assertEqual(read_poly("odd 0"), ("odd", ()))
        self.assertEqual(read_poly("both 1"), ("both", (((), 1),)))
        self.assertEqual(read_poly("both -1"), ("both", (((), -1),)))
        self.assertEqual(read_poly("odd -a ab"), ("odd", (((0,), -1), ((0, 1), 1))))
        for text in ("both", "both ", "odd  0", " odd 0", "odd 0 ", "odd 00", "odd -0", "odd +1", "odd 01", "odd 0a", "odd 1a",
                     "odd -1a", "odd 1ab", "odd --1", "odd -", "odd --a", "odd ba", "odd aa", "odd g", "odd A", "odd 2g",
                     "odd 1 0", "odd 0 a", "odd a 0", "odd a a", "odd a 1", "odd b a", "odd b ab", "odd 1 1", "odd 1  a",
                     "Odd 1", "BOTH 1", "even 1", "1", "a", "odd1", "odd\t1", "odd 1\n", "odd 1_000", "odd 1e5", "odd 0x1",
                     "odd 2 3ab -1b", "odd 3.0", "odd 2*a", "odd a2", "odd 2 a", "odd 007", "odd -07a", "both odd 1", "odd odd",
                     "odd \u0661", "odd \u00b2", "odd \uff11a", "odd None", "odd 1 -", "odd - a", "odd a b c d e f g", "0", "odd,1"):
            told = self.holds(read_poly, show_poly, is_poly, text)
            self.assertIs(told, text == "odd 2 a", text)

    def test_sixty_figures(self):
        for figures, read in ((59, True), (60, True), (61, False), (200, False), (5000, False), (100000, False)):
            for ahead in ("", "-"):
                for letters in ("", "a", "bf"):
                    for first in "19":
                        text = f"both {ahead}{first}{'7' * (figures - 1)}{letters}"
                        self.assertIs(self.holds(read_poly, show_poly, is_poly, text), read)
                        self.assertIs(self.holds(read_poly, show_poly, is_poly, text + " cd"), read)

    def test_all_terms(self):
        every = sorted(subsets(6))
        for kind in KINDS:
            poly = (kind, tuple((term, 10 ** 60 - 1 - place) for place, term in enumerate(every)))
            self.assertEqual(told_twice(self, read_poly, show_poly(poly)), poly)
            self.refuses(read_poly, show_poly(poly) + " f")
            self.refuses(read_poly, show_poly(poly) + " 2" * 100000)


if __name__ == "__main__":
    unittest.main()
