import random
import unittest

from samples import (KINDS, STRANGE, by_counts, choose, does_tell, full_functions, functions_by_number, functions_of, nested,
                     polys_of, some_rules, subsets, told_in, tower)
from signpoly.counts import counts_of
from signpoly.degrees import least_degree, weak_degree
from signpoly.desk import Desk
from signpoly.errors import NoLine, NoText, SignError
from signpoly.exacts import sum_by
from signpoly.fews import fewest
from signpoly.margins import widest
from signpoly.moves import held, left_out, opposite, turned
from signpoly.numbers import how_many
from signpoly.polys import degree_of, size_of
from signpoly.reading import read_poly
from signpoly.rules import switches_in, table_of
from signpoly.showing import show_function, show_poly, show_rule
from signpoly.signs import noughts_of, tells
from signpoly.sizes import least_size
from signpoly.splits import stands_on
from signpoly.sums import alone
from signpoly.terms import terms_to

LETTERS = "abcdef"
NOTHING = ["opposite", "back", "function", "counts", "degree", "weak"]
BY_KIND = ["poly", "few"]
BY_TERMS = ["stands", "margin", "alone", "least", "many"]


def switches(f):
    return len(f).bit_length() - 1


def is_full(f):
    return None not in f


def rows_text(rows):
    return " ".join(str(row) for row in rows) or "none"


def answer(f, word, kind=None, size=None):
    """What the desk is to answer of the function to a line with a stage's most, by the functions of the points."""
    n = switches(f)
    terms = terms_to(n, size) if size is not None else ()
    if n > (3 if word in ("few", "least", "many") else 4) or (word == "least" and len(terms) > 5):
        return "great"
    if word in ("weak", "margin") and not told_in(f) or word == "alone" and not is_full(f):
        return "open"
    if word == "degree":
        return str(least_degree(f, "both")[0])
    if word == "weak":
        return str(weak_degree(f, "both")[0])
    if word == "stands":
        return rows_text(stands_on(f, kind, terms))
    if word == "margin":
        return "{}/{}".format(*widest(f, kind, terms)[0])
    if word == "alone":
        return "yes" if alone(f, kind, terms)[0] == "alone" else "no"
    if word == "few":
        return str(len(fewest(f, kind)[0][1]))
    if word == "least":
        told = least_size(f, kind, terms)
        return "none" if told is None else str(size_of(told[0]))
    return str(how_many(n, kind, terms))


class Desks(unittest.TestCase):
    def desk(self, f):
        return Desk(show_function(f))

    def refuses(self, desk, line):
        """The line is refused, and nothing of the desk changes."""
        was = desk.say("function")
        try:
            told = desk.say(line)
        except SignError as error:
            self.assertIs(type(error), NoLine)
        else:
            self.fail(f"{line!r} of {was} is answered by {told!r}")
        self.assertEqual(desk.say("function"), was)

    def says(self, desk, line, told):
        self.assertEqual(desk.say(line), told, (line, desk.say("function")))


class Made(Desks):
    def test_of_texts(self):
        for n in range(7):
            for f in functions_of(n):
                text = show_function(f)
                self.says(Desk(text), "function", text)
                self.says(Desk(text), "back", "none")

    def test_of_anything(self):
        for thing in STRANGE + ["", " ", "01-", "01 ", " 01", "012", "0" * 3, "0" * 128, "01\n", "2", "a", ["0", "1"], (0, 1),
                                b"01", nested("0", lambda inner: [inner], 40), tower(40), {"01": "01"}, "\u0661", "01-01"]:
            if isinstance(thing, str) and thing == "01":
                continue
            try:
                made = Desk(thing)
            except SignError as error:
                self.assertIs(type(error), NoText)
            else:
                self.fail(f"{thing!r} makes {made!r}")


class Moving(Desks):
    def test_each_line(self):
        for n in range(7):
            for f in functions_of(n, 1):
                desk = self.desk(f)
                lines = [("opposite", opposite(f))]
                lines += [(f"turn {LETTERS[k]}", turned(f, (k,))) for k in range(n)]
                lines += [(f"hold {LETTERS[k]} {v}", held(f, k, v)) for k in range(n) for v in (0, 1)]
                lines += [(f"out {row}", left_out(f, (row,))) for row in range(2 ** n)]
                for line, told in lines:
                    self.says(desk, line, "done")
                    self.says(desk, "function", show_function(told))
                    self.says(desk, "back", "done")
                    self.says(desk, "function", show_function(f))
                    self.says(desk, "back", "none")
                    self.says(desk, "function", show_function(f))

    def test_out(self):
        f = (1, 0, 1, 0, 0, 1, 0, 1)
        for rows in ((0,), (7,), (3, 1), (1, 3), (5, 5), (0, 1, 2, 3, 4, 5, 6, 7), (7, 0, 7, 0)):
            desk = self.desk(f)
            self.says(desk, "out " + " ".join(map(str, rows)), "done")
            self.says(desk, "function", show_function(left_out(f, rows)))
            self.says(desk, "out 0", "done")
            self.says(desk, "back", "done")
            self.says(desk, "function", show_function(left_out(f, rows)))
            self.says(desk, "back", "done")
            self.says(desk, "function", show_function(f))
        many = self.desk((1,) * 64)
        self.says(many, "out 63 10 9 0 63", "done")
        self.says(many, "function", "-" + "1" * 8 + "--" + "1" * 52 + "-")

    def test_rule(self):
        for rule in some_rules(1, 150):
            for n in range(7):
                desk = self.desk((None,) * 2 ** n)
                line = "rule " + show_rule(rule)
                if any(k >= n for k in switches_in(rule)):
                    self.refuses(desk, line)
                    self.says(desk, "back", "none")
                    continue
                self.says(desk, line, "done")
                self.says(desk, "function", show_function(table_of(rule, n)))
                self.says(desk, "back", "done")
                self.says(desk, "function", "-" * 2 ** n)

    def test_rule_refused(self):
        desk = Desk("0110")
        for text in ("", " ", "c", "&(a c)", "A", "a ", " a", "&(a  b)", "&(a b", "a b", "ab", "!!!!!!a", "&(a a a a a a a)", "a\n",
                     "10(a)", "switch 0", "0110", "both a", "!c", "^(a b c)", "|(f)"):
            self.refuses(desk, "rule " + text)
        self.refuses(desk, "rule")
        self.says(desk, "rule &(a b)", "done")
        self.says(desk, "function", "0001")
        self.says(desk, "rule 0()", "done")
        self.says(desk, "function", "1111")

    def test_written_out(self):
        desk = Desk("01-0")
        self.says(desk, "opposite", "done")
        self.says(desk, "function", "10-1")
        self.says(desk, "turn b", "done")
        self.says(desk, "function", "-110")
        self.says(desk, "hold a 0", "done")
        self.says(desk, "function", "-1")
        # What was switch b is a now.
        self.refuses(desk, "turn b")
        self.says(desk, "out 1", "done")
        self.says(desk, "function", "--")
        self.says(desk, "hold a 1", "done")
        self.says(desk, "function", "-")
        for line in ("turn a", "hold a 0", "hold a 1", "rule a", "tells both a", "noughts odd a", "sum both a", "stands both 1",
                     "out 1", "many odd 1"):
            self.refuses(desk, line)
        self.says(desk, "rule &()", "done")
        self.says(desk, "function", "1")
        for told in ("-", "--", "-1", "-110", "10-1", "01-0"):
            self.says(desk, "back", "done")
            self.says(desk, "function", told)
        self.says(desk, "back", "none")
        self.says(desk, "back", "none")
        self.says(desk, "function", "01-0")
        self.says(desk, "turn b", "done")
        self.says(desk, "back", "done")
        self.says(desk, "back", "none")

    def test_a_line_that_changes_nothing_is_taken_back_too(self):
        desk = Desk("----")
        self.says(desk, "rule a", "done")
        self.says(desk, "out 0 1 2 3", "done")
        self.says(desk, "opposite", "done")
        self.says(desk, "turn a", "done")
        self.says(desk, "out 2", "done")
        for _ in range(4):
            self.says(desk, "function", "----")
            self.says(desk, "back", "done")
        self.says(desk, "function", "0101")
        self.says(desk, "back", "done")
        self.says(desk, "function", "----")
        self.says(desk, "back", "none")

    def test_asking_and_refusing_are_not_taken_back(self):
        desk = Desk("0110")
        self.says(desk, "turn a", "done")
        for line in ("function", "counts", "sum odd ab", "tells both 0", "noughts both 0", "degree", "weak", "poly odd", "stands odd 1",
                     "margin odd 1", "alone both 1", "few both", "least odd 2", "many odd 1"):
            desk.say(line)
        for line in ("turn c", "", "open", "out 4", "rule c", None, 5):
            self.refuses(desk, line)
        self.says(desk, "back", "done")
        self.says(desk, "function", "0110")
        self.says(desk, "back", "none")

    def test_walks_by_chance(self):
        chance = random.Random(2)
        for n in (1, 3, 6):
            for f in functions_of(n, 2):
                desk = self.desk(f)
                now, earlier = f, []
                for _ in range(40):
                    word = chance.choice(["opposite", "turn", "turn", "hold", "out", "rule", "back", "back"])
                    m = switches(now)
                    if word in ("turn", "hold") and m == 0:
                        word = "opposite"
                    if word == "back":
                        self.says(desk, "back", "done" if earlier else "none")
                        now = earlier.pop() if earlier else now
                    else:
                        earlier.append(now)
                        k, v = chance.randrange(max(m, 1)), chance.randint(0, 1)
                        rows = [chance.randrange(2 ** m) for _ in range(chance.randint(1, 4))]
                        rule = ("odd", tuple(("switch", k) for k in range(m)))
                        line, now = {"opposite": ("opposite", opposite(now)),
                                     "turn": (f"turn {LETTERS[k]}", turned(now, (k,)) if m else now),
                                     "hold": (f"hold {LETTERS[k]} {v}", held(now, k, v) if m else now),
                                     "out": ("out " + " ".join(map(str, rows)), left_out(now, rows)),
                                     "rule": ("rule " + show_rule(rule), table_of(rule, m))}[word]
                        self.says(desk, line, "done")
                    self.says(desk, "function", show_function(now))

    def test_two_desks_at_once(self):
        one, other = Desk("01"), Desk("01")
        self.says(one, "opposite", "done")
        self.says(other, "function", "01")
        self.says(other, "back", "none")
        self.says(other, "out 1", "done")
        self.says(one, "function", "10")
        self.says(one, "back", "done")
        self.says(one, "function", "01")
        self.says(other, "function", "0-")


class Asking(Desks):
    def asks(self, f, line, told):
        """Asked twice the desk tells the same, and the function stays."""
        desk = self.desk(f)
        self.says(desk, line, told)
        self.says(desk, line, told)
        self.says(desk, "function", show_function(f))

    def test_counts(self):
        for n in range(7):
            for f in functions_of(n, 3):
                told = "open"
                if is_full(f):
                    row = counts_of(f)
                    told = "none" if row is None else "".join(map(str, row))
                self.asks(f, "counts", told)
        for n in range(7):
            row = tuple(k % 3 // 2 for k in range(n + 1))
            self.asks(by_counts(n, row), "counts", "".join(map(str, row)))
        self.asks((0, 1, 1, 0), "counts", "010")
        self.asks((0, 1, 0, 0), "counts", "none")
        self.asks((0, 1, None, 0), "counts", "open")
        self.asks((None,), "counts", "open")
        self.asks((1,), "counts", "1")

    def test_sum(self):
        for n in range(7):
            for f in functions_of(n, 4):
                for kind in KINDS:
                    for term in choose(random.Random(n), subsets(n), 8) + [()]:
                        letters = "".join(LETTERS[k] for k in term) or "-"
                        self.asks(f, f"sum {kind} {letters}", str(sum_by(f, kind, term)))
        self.asks((0, 1, None, 0), "sum both -", "-1")
        self.asks((0, 1, None, 0), "sum odd a", "-1")
        desk = Desk("01101001")
        for line in ("sum both", "sum both ", "sum both d", "sum both ba", "sum both aa", "sum both --", "sum both -a", "sum both a-",
                     "sum both a b", "sum Both a", "sum a", "sum - both", "sum both A", "sum odd abd", "sum", "sum odd a ", "sum odd 0"):
            self.refuses(desk, line)

    def test_tells_and_noughts(self):
        for n in range(7):
            for f in functions_of(n, 5):
                for kind in KINDS:
                    for poly in polys_of(kind, n, 4, 2):
                        text = show_poly(poly)
                        self.asks(f, "tells " + text, "yes" if tells(poly, f) else "no")
                        self.asks(f, "noughts " + text, rows_text(noughts_of(poly, n)))
        self.asks((0, 0, 0, 1), "tells both -3 2a 2b", "yes")
        self.asks((0, 0, 0, 1), "tells both -2 2a 2b", "no")
        self.asks((0, 0, 0, 1), "noughts both -2 2a 2b", "1 2")
        self.asks((0, 0, 0, 1), "noughts both -3 2a 2b", "none")
        self.asks((None, None), "tells both 0", "yes")
        self.asks((None, None), "noughts both 0", "0 1")
        desk = Desk("0001")
        for word in ("tells", "noughts"):
            self.refuses(desk, word)
            for text in ("", " ", "both", "both c", "both ac", "both 1 c", "both  1", "both 1 ", "both 01", "odd 1a", "a", "1", "both -0",
                         "both 0 a", "both a a", "both 1" + "0" * 60, "both 1\n", "rule a", "odd b a"):
                self.refuses(desk, word + " " + text)
            self.assertIn(desk.say(word + " both 1" + "0" * 59), ("no", "none"))

    def test_poly(self):
        for n in range(5):
            for f in functions_of(n, 6):
                for kind in KINDS:
                    poly = read_poly(self.desk(f).say("poly " + kind))
                    self.assertEqual(poly[0], kind)
                    self.assertTrue(does_tell(poly, f))
                    self.assertEqual(degree_of(poly), least_degree(f, kind)[0])
                    self.asks(f, "poly " + kind, show_poly(least_degree(f, kind)[1]))
        self.asks((None,), "poly odd", "odd 0")

    def test_answers_of_one_word(self):
        for n in range(7):
            for f in functions_of(n, 7):
                for word in ("degree", "weak"):
                    self.asks(f, word, answer(f, word))
        for f in functions_by_number(1):
            for word in ("degree", "weak"):
                self.asks(f, word, answer(f, word))

    def test_answers_by_terms(self):
        chance = random.Random(8)
        seen = {}
        for n in range(7):
            for f in choose(chance, functions_of(n, 8), 5) + choose(chance, full_functions(n, 8), 3):
                for word in ("stands", "margin", "alone", "least"):
                    for kind in KINDS:
                        for size in range(n + 1):
                            told = answer(f, word, kind, size)
                            self.says(self.desk(f), f"{word} {kind} {size}", told)
                            seen.setdefault(word, set()).add(told)
        for word, some in (("stands", {"none", "great", "0 1"}), ("margin", {"0/1", "1/1", "great", "open"}),
                           ("alone", {"yes", "no", "great", "open"}), ("least", {"none", "0", "1", "great"})):
            self.assertTrue(seen[word] >= some, (word, seen[word]))

    def test_few_and_many(self):
        for n in range(7):
            for f in functions_of(n, 9):
                for kind in KINDS:
                    self.says(self.desk(f), "few " + kind, answer(f, "few", kind))
            for kind in KINDS:
                for size in range(n + 1):
                    self.says(self.desk(f), f"many {kind} {size}", answer(f, "many", kind, size))
        self.asks((None,) * 8, "many both 1", "104")
        self.asks((0, 1, 1, 0), "few odd", "1")

    def test_written_out(self):
        unlike = (0, 1, 1, 0)
        self.asks(unlike, "degree", "2")
        self.asks(unlike, "weak", "2")
        self.asks(unlike, "stands both 1", "0 1 2 3")
        self.asks(unlike, "stands both 2", "none")
        self.asks(unlike, "alone odd 1", "no")
        self.asks(unlike, "alone odd 2", "yes")
        self.asks(unlike, "margin odd 1", "0/1")
        self.asks(unlike, "margin odd 2", "1/1")
        self.asks((0, 0, 0, 1), "margin odd 1", "1/3")
        self.asks(unlike, "least odd 1", "none")
        self.asks(unlike, "least odd 2", "1")
        self.asks((0, 0, 0, 1), "least both 1", "7")
        self.asks((None, None), "least both 0", "0")

    def test_great_and_open(self):
        nothing = {n: "-" * 2 ** n for n in range(7)}
        for n in (5, 6):
            for word in ("degree", "weak", "poly odd", "stands odd 0", "margin odd 0", "alone odd 0", "few odd", "least odd 0", "many odd 0"):
                # Great goes ahead of open.
                self.says(Desk(nothing[n]), word, "great")
                self.says(Desk("1" * 2 ** n), word, "great")
        for word in ("few both", "least both 0", "many both 0"):
            self.says(Desk(nothing[4]), word, "great")
            self.assertNotEqual(Desk(nothing[3]).say(word), "great")
        for size, told in ((0, "0"), (1, "0"), (2, "great"), (3, "great")):
            self.says(Desk(nothing[3]), f"least both {size}", told)
        self.says(Desk(nothing[2]), "least both 2", "0")
        for n in range(5):
            for word in ("weak", "margin both 0", "counts", f"alone both {n}"):
                self.says(Desk(nothing[n]), word, "open")
            one = "1" + nothing[n][1:]
            self.says(Desk(one), "weak", "0")
            self.says(Desk(one), "margin both 0", "1/1")
            for word in ("counts", "alone both 0"):
                self.says(Desk(one), word, "open" if n else {"counts": "1", "alone both 0": "yes"}[word])
                self.assertNotEqual(Desk("1" * 2 ** n).say(word), "open")
            for word in ("degree", "poly both", "stands both 0", "sum both -", "tells both 0", "noughts both 0"):
                self.assertNotIn(Desk(nothing[n]).say(word), ("open", "great"))
        self.says(Desk(nothing[6]), "counts", "open")
        self.says(Desk("0" * 64), "counts", "0" * 7)
        # Of as many switches as can be these are answered too.
        self.says(Desk("0" * 64), "sum odd -", "-64")
        self.says(Desk("0" * 64), "tells odd -1", "yes")
        self.says(Desk("0" * 64), "noughts odd -1", "none")

    def test_holding_makes_less_than_great(self):
        desk = Desk("01" * 16)
        self.says(desk, "degree", "great")
        self.says(desk, "hold e 1", "done")
        self.says(desk, "degree", "1")
        self.says(desk, "few odd", "great")
        self.says(desk, "hold d 0", "done")
        self.says(desk, "few odd", "1")
        self.says(desk, "back", "done")
        self.says(desk, "back", "done")
        self.says(desk, "degree", "great")


class Refusing(Desks):
    def test_things_that_are_no_texts(self):
        desk = Desk("01-0")
        for thing in STRANGE + [["function"], ("function",), b"function", {"function": 1}, nested("back", lambda inner: [inner], 40),
                                tower(40), True, 0, None]:
            if not isinstance(thing, str):
                self.refuses(desk, thing)
                self.refuses(desk, [thing])
                self.refuses(desk, (thing,))

    def test_words_more_and_fewer(self):
        for text in ("01-0", "0" * 64):
            desk = Desk(text)
            lines = list(NOTHING) + ["turn a", "hold a 0", "out 0", "rule a", "sum odd a", "tells odd a", "noughts odd a"]
            lines += [f"{word} {kind}" for word in BY_KIND for kind in KINDS]
            lines += [f"{word} {kind} 1" for word in BY_TERMS for kind in KINDS]
            for line in lines:
                words = line.split(" ")
                wrong = [" " + line, line + " ", line + "\n", "\n" + line, line + "\t", line.upper(), line.capitalize(), line + " x",
                         line + " -", line + "  0", "x " + line, "  ".join(words) if len(words) > 1 else "", "\t".join(words) + " ",
                         "_".join(words) + "_", line + ".", "say " + line, line + " a", line + " " + line]
                wrong += [" ".join(words[:many]) for many in range(len(words))]
                wrong += [" ".join(words[:many]) + " " for many in range(1, len(words))]
                if line != "out 0":
                    wrong += [line + " 1" if words[0] not in ("tells", "noughts") else line + " 01"]
                for other in wrong:
                    if other not in lines and not (words[0] in ("tells", "noughts") and other.startswith(line + " b")):
                        self.refuses(desk, other)
            self.says(desk, "back", "none")

    def test_numbers(self):
        desk = Desk("01101001")
        for word in BY_TERMS:
            for number in ("4", "-1", "00", "01", "+1", "1.0", "", "a", "-0", "10", "\u0661", "\u00b2", "\uff11", "1_0", "9" * 5000):
                self.refuses(desk, f"{word} both {number}")
            for kind in ("Both", "even", "", "0", "bothodd", "both,", "odd\n"):
                self.refuses(desk, f"{word} {kind} 1")
            self.refuses(desk, f"{word} 1 both")
        for row in ("8", "-1", "00", "07", "+1", "", "a", "1.0", "64", "\u0661", "1,2", "9" * 5000, "7\n"):
            self.refuses(desk, f"out {row}")
            self.refuses(desk, f"out 1 {row}")
            self.refuses(desk, f"out {row} 1")
        self.refuses(desk, "out 1  2")
        for letter in ("d", "A", "ab", "", "-", "0", "aa", "\u0430"):
            self.refuses(desk, f"turn {letter}")
            self.refuses(desk, f"hold {letter} 0")
        for value in ("2", "-1", "00", "01", "", "on", "True", "\u0661", "-"):
            self.refuses(desk, f"hold a {value}")
        for kind in ("", "Both", "even", "both odd", "0", "od"):
            self.refuses(desk, f"poly {kind}")
            self.refuses(desk, f"few {kind}")
        self.says(desk, "back", "none")

    def test_ahead_of_great_and_open(self):
        great = Desk("-" * 64)
        for line in ("degree 0", "weak both", "poly", "poly x", "stands both 7", "margin x 0", "margin both 07", "alone both -1", "few x",
                     "least both 7", "many both 7", "least x 1", "counts 1", "stands 0 both"):
            self.refuses(great, line)
        nothing = Desk("--")
        for line in ("weak 0", "margin both 2", "margin x 0", "counts both", "alone both 2", "alone both"):
            self.refuses(nothing, line)

    def test_letters_that_hold_took_away(self):
        desk = Desk("0" * 64)
        for left in range(5, -1, -1):
            self.assertEqual(desk.say("turn " + LETTERS[left]), "done")
            self.assertIn(desk.say(f"many odd {left + 1}"), ("great", str(2 ** 2 ** (left + 1))))
            self.says(desk, "hold a 0", "done")
            gone = LETTERS[left]
            for line in (f"turn {gone}", f"hold {gone} 1", f"sum odd {gone}", f"tells odd {gone}", f"noughts odd {gone}", f"rule {gone}",
                         f"many odd {left + 1}", f"out {2 ** left}"):
                self.refuses(desk, line)
            self.says(desk, f"out {2 ** left - 1}", "done")
        for _ in range(18):
            self.says(desk, "back", "done")
        self.says(desk, "back", "none")
        self.says(desk, "function", "0" * 64)
        self.says(desk, "turn f", "done")


if __name__ == "__main__":
    unittest.main()
