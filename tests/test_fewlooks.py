import unittest

from samples import (KINDS, STRANGE, functions_by_number, functions_of, is_sound_fewest, look_alike_otherwise, told_in,
                     told_twice, tower)
from signpoly.fewlooks import shows_fewest
from signpoly.fews import fewest
from signpoly.reckoning import often
from signpoly.splits import solved

BOTH_ON = (0, 0, 0, 1)
ALL_ON = ("both", (((), -1), ((0, 1), 2)))
BARS = ((((),), (1, 0, 0, 1)), (((0,),), (1, 0, 0, 0)), (((0, 1),), (1, 1, 1, 0)), (((1,),), (0, 0, 1, 1)))


def functions(seed):
    for n in (0, 1):
        yield from functions_by_number(n)
    for n in (2, 3):
        yield from functions_of(n, seed)


def one_fewer(things):
    """The things without one of them, each in turn."""
    return [things[:place] + things[place + 1:] for place in range(len(things))]


class FewLooks(unittest.TestCase):
    def shows(self, f, kind, thing):
        self.assertIs(shows_fewest(f, kind, thing), True, (f, kind, thing))

    def refuses(self, f, kind, thing):
        self.assertIs(shows_fewest(f, kind, thing), False, (f, kind, thing))

    def test_what_is_told(self):
        for f in functions(1):
            for kind in KINDS:
                poly, bars = fewest(f, kind)
                self.assertIs(told_twice(self, shows_fewest, f, kind, (poly, bars)), True)
                for number in (2, 10 ** 30):
                    more = tuple((terms, tuple(number * weight for weight in bar)) for terms, bar in bars)
                    self.shows(f, kind, (often(poly, number), more))
                self.refuses(f, "both" if kind == "odd" else "odd", (poly, bars))
                if told_in(f):
                    self.refuses(f, kind, (often(poly, -1), bars))
                if told_in(f):
                    self.refuses(f, kind, (poly, bars + bars[-1:]))
                    self.refuses(f, kind, (poly, bars[:1] + bars))
                for other in one_fewer(bars) + [bars + ((),), bars + (((), (1,) * len(f)),)]:
                    self.refuses(f, kind, (poly, other))

    def test_written_out(self):
        self.shows(BOTH_ON, "both", (ALL_ON, BARS))
        self.shows(BOTH_ON, "both", (("both", (((), -3), ((0, 1), 4))), BARS))
        self.shows(BOTH_ON, "both", (ALL_ON, ((((),), (1, 1, 1, 3)),) + BARS[1:]))
        self.refuses(BOTH_ON, "both", (ALL_ON, ((((),), (1, 1, 1, 2)),) + BARS[1:]))
        self.refuses(BOTH_ON, "both", (ALL_ON, ((((),), (0, 0, 0, 0)),) + BARS[1:]))
        self.refuses(BOTH_ON, "both", (ALL_ON, BARS[:1] + BARS[:1] + BARS[2:]))
        self.refuses(BOTH_ON, "both", (ALL_ON, BARS[:2] + BARS[1:2] + BARS[3:]))
        self.refuses(BOTH_ON, "both", (ALL_ON, BARS[::-1]))
        self.refuses(BOTH_ON, "both", (ALL_ON, BARS[:2] + BARS[3:] + BARS[2:3]))
        self.refuses(BOTH_ON, "both", (ALL_ON, ()))
        self.refuses(BOTH_ON, "both", (ALL_ON, tuple((list(terms), bar) for terms, bar in BARS)))
        self.refuses(BOTH_ON, "both", (ALL_ON, tuple([terms, bar] for terms, bar in BARS)))
        self.refuses(BOTH_ON, "both", (ALL_ON, tuple((terms, list(bar)) for terms, bar in BARS)))
        self.refuses(BOTH_ON, "both", (ALL_ON, BARS[:1] + ((((False,),), (1, 0, 0, 0)),) + BARS[2:]))
        self.refuses(BOTH_ON, "both", (ALL_ON, BARS[:3] + ((((2,),), (0, 0, 1, 1)),)))
        # A term twice, terms that don't rise, terms of a switch that isn't there, more terms.
        for terms in (((), ()), ((1,), (0,)), ((0,), (2,)), ((), (0,), (1,))):
            self.refuses(BOTH_ON, "both", (ALL_ON, ((terms, (1, 0, 0, 0)),) * 6))
            self.refuses(BOTH_ON, "both", (ALL_ON, ((terms, (1, 0, 0, 0)),) + BARS[1:]))

    def test_more_parts_than_can_be(self):
        # It tells, and each bar is one, but for a choice of two terms there is none.
        more = ("both", (((), -3), ((0,), 1), ((0, 1), 3)))
        pairs = [((), (0,)), ((), (0, 1)), ((), (1,)), ((0,), (0, 1)), ((0,), (1,)), ((0, 1), (1,))]
        bars = [(pair, solved(BOTH_ON, "both", pair)) for pair in pairs]
        self.assertEqual([answer[0] for pair, answer in bars].count("poly"), 1)
        barred = tuple((pair, answer[1] if answer[0] == "bar" else (1, 0, 0, 1)) for pair, answer in bars)
        self.refuses(BOTH_ON, "both", (more, barred))
        self.refuses(BOTH_ON, "both", (more, BARS))
        self.refuses((None,), "odd", (("odd", (((), 1),)), ()))
        self.refuses((None,), "odd", (("odd", (((), 1),)), (((), (0,)),)))
        self.shows((None,), "odd", (("odd", ()), ()))
        self.refuses((1,), "odd", (("odd", ()), ()))
        self.shows((1,), "odd", (("odd", (((), 1),)), (((), (1,)),)))
        self.refuses((1,), "odd", (("odd", (((), 1),)), (((), (0,)),)))
        self.refuses((1,), "odd", (("odd", (((0,), 1),)), (((), (1,)),)))
        self.refuses((1, 1), "odd", (("odd", (((), 2), ((0,), 1))), ((((),), (1, 1)), (((0,),), (1, 1)))))

    def test_one_place_otherwise(self):
        cases = [(f, kind) for f in functions(3) for kind in KINDS if len(f) < 8]
        look_alike_otherwise(self, shows_fewest, is_sound_fewest, [(case, fewest(*case)) for case in cases])

    def test_anything(self):
        for f in ((None,), (1,), (0, 1)):
            poly, bars = fewest(f, "odd")
            for thing in STRANGE:
                self.refuses(f, "odd", thing)
                for filled in ((thing, thing), (thing, bars), (poly, thing), (poly, (thing,) * len(bars)), (poly, bars, thing),
                               (poly, ((thing, (1,)),)), (poly, (((), thing),)), (poly, (((), (thing,)),)),
                               (poly, (((thing,), (1,)),)), (("odd", thing), bars), (("odd", (thing,)), bars)):
                    self.assertIs(shows_fewest(f, "odd", filled), is_sound_fewest(f, "odd", filled), filled)
        self.refuses(BOTH_ON, "both", (ALL_ON, tower(2)))
        self.refuses(BOTH_ON, "both", (ALL_ON, tower(40)))
        self.refuses(BOTH_ON, "both", (ALL_ON, (tower(40),) * 4))
        self.refuses(BOTH_ON, "both", (ALL_ON, ((tower(40), tower(40)),) * 4))
        self.refuses(BOTH_ON, "both", (ALL_ON, (((tower(40),), tower(40)),) * 4))


if __name__ == "__main__":
    unittest.main()
