import random
import unittest

from samples import STRANGE, is_row, is_tuple_of, look_alike_otherwise, told_twice
from signpoly.mostlooks import shows_most
from signpoly.mosts import most_of


def dot(one, other):
    assert len(one) == len(other)
    return sum(left * right for left, right in zip(one, other))


def is_sound(rows, bounds, gains, thing):
    """Whether the thing is the most or a way beyond, as the document says it."""
    if type(thing) is not tuple or len(thing) == 0 or type(thing[0]) is not str:
        return False
    if thing[0] == "beyond" and len(thing) == 2:
        return (is_row(thing[1], len(gains)) and all(dot(row, thing[1]) <= 0 for row in rows)
                and dot(gains, thing[1]) > 0)
    if thing[0] != "most" or not is_tuple_of(thing, 4):
        return False
    part, amounts, prices = thing[1:]
    if type(part) is not int or part < 1 or not is_row(amounts, len(gains)) or not is_row(prices, len(rows)):
        return False
    return (all(dot(row, amounts) <= bound * part for row, bound in zip(rows, bounds))
            and all(dot([row[place] for row in rows], prices) >= gain * part for place, gain in enumerate(gains))
            and dot(bounds, prices) == dot(gains, amounts))


def times(thing, number):
    """What is told with all its numbers so many times."""
    if type(thing) is tuple:
        return tuple(times(part, number) for part in thing)
    return thing if type(thing) is str else thing * number


def some_case(chance, rows, gains, most):
    return (tuple(tuple(chance.randint(-most, most) for _ in range(gains)) for _ in range(rows)),
            tuple(chance.choice((0, 1, chance.randint(0, most))) for _ in range(rows)),
            tuple(chance.randint(-most, most) for _ in range(gains)))


class MostLooks(unittest.TestCase):
    def shows(self, case, thing):
        self.assertIs(shows_most(*case, thing), True, (case, thing))

    def refuses(self, case, thing):
        self.assertIs(shows_most(*case, thing), False, (case, thing))

    def test_what_is_told(self):
        chance = random.Random(3)
        words = []
        for _ in range(500):
            case = some_case(chance, chance.randint(0, 5), chance.randint(1, 5), chance.choice((1, 3, 10 ** 19)))
            told = most_of(*case)
            words.append(told[0])
            for number in (1, 2, 3, 10 ** 30):
                self.shows(case, times(told, number))
            self.refuses(case, times(told, 0))
            self.refuses(case, times(told, -1))
        self.assertGreater(words.count("most"), 100)
        self.assertGreater(words.count("beyond"), 100)

    def test_others_than_what_is_told(self):
        case = (((1, 1),), (1,), (1, 1))
        for part, amounts in ((1, (1, 0)), (1, (0, 1)), (2, (1, 1)), (7, (3, 4))):
            self.shows(case, ("most", part, amounts, (part,)))
        self.refuses(case, ("most", 7, (3, 3), (7,)))
        self.refuses(case, ("most", 7, (3, 3), (6,)))
        self.refuses(case, ("most", 7, (4, 4), (8,)))
        twice = (((1,), (1,)), (3, 3), (2,))
        for part, prices in ((1, (2, 0)), (1, (0, 2)), (1, (1, 1)), (5, (3, 7))):
            self.shows(twice, ("most", part, (3 * part,), prices))
        self.refuses(twice, ("most", 1, (3,), (2, 1)))
        way = (((1, -1),), (5,), (1, 0))
        for told in ((1, 1), (1, 2), (7, 10 ** 30)):
            self.shows(way, ("beyond", told))
        for told in ((2, 1), (0, 1), (0, 0), (-1, 1), (1, 1, 0), (1,)):
            self.refuses(way, ("beyond", told))

    def test_each_clause_of_the_most(self):
        case = (((1, 1), (1, 3)), (4, 6), (3, 5))
        self.shows(case, ("most", 1, (3, 1), (2, 1)))
        self.refuses(case, ("most", 1, (2, 1), (3, 1)))
        # More than a bound, prices that come to less than a gain, unlike sums.
        self.refuses((((1,),), (2,), (1,)), ("most", 1, (3,), (1,)))
        self.refuses((((1,), (2,)), (2, 1), (1,)), ("most", 1, (1,), (0, 1)))
        self.refuses((((1,),), (2,), (1,)), ("most", 1, (1,), (1,)))
        self.refuses((((1,),), (0,), (1,)), ("most", 1, (0,), (0,)))
        self.shows((((1,),), (0,), (1,)), ("most", 1, (0,), (1,)))
        self.shows((((1,),), (0,), (1,)), ("most", 1, (0,), (9,)))
        self.refuses((((1,),), (0,), (1,)), ("most", 2, (0,), (1,)))
        self.refuses((((0,),), (0,), (0,)), ("most", 0, (0,), (0,)))
        self.refuses((((0,),), (0,), (0,)), ("most", -1, (0,), (0,)))
        self.refuses((((0,),), (0,), (0,)), ("most", 1, (-1,), (0,)))
        self.refuses((((0,),), (0,), (0,)), ("most", 1, (0,), (-1,)))

    def test_amounts_and_prices_one_more_or_fewer(self):
        case = (((1, 0), (0, 1)), (1, 0), (1, 0))
        self.shows(case, ("most", 1, (1, 0), (1, 0)))
        self.refuses(case, ("most", 1, (1,), (1, 0)))
        self.refuses(case, ("most", 1, (1, 0, 0), (1, 0)))
        self.refuses(case, ("most", 1, (1, 0), (1,)))
        self.refuses(case, ("most", 1, (1, 0), (1, 0, 0)))
        self.refuses((((1,), (1,)), (1, 1), (1,)), ("most", 1, (1, 0), (1,)))

    def test_the_other_word(self):
        case = (((1,),), (1,), (1,))
        self.shows(case, ("most", 1, (1,), (1,)))
        for thing in (("beyond", 1, (1,), (1,)), ("beyond", (1,)), ("most", (1,)), ("Most", 1, (1,), (1,)),
                      ("most", 1, (1,)), ("most", 1, (1,), (1,), ()), (b"most", 1, (1,), (1,))):
            self.refuses(case, thing)
        beyond = (((-1,),), (1,), (1,))
        self.shows(beyond, ("beyond", (1,)))
        for thing in (("most", (1,)), ("beyond", (1,), ()), ("beyond", 1, (1,), (1,)), ("beyond",), ("", (1,))):
            self.refuses(beyond, thing)

    def test_no_rows(self):
        self.shows(((), (), (0, -1)), ("most", 1, (0, 0), ()))
        self.shows(((), (), (0, -1)), ("most", 5, (7, 0), ()))
        self.refuses(((), (), (0, -1)), ("most", 5, (7, 1), ()))
        self.refuses(((), (), (0, -1)), ("most", 5, (7, 0), (0,)))
        self.refuses(((), (), (0, 1)), ("most", 1, (0, 0), ()))
        self.shows(((), (), (-1, 1)), ("beyond", (1, 2)))
        self.refuses(((), (), (-1, 1)), ("beyond", (1, 1)))

    def test_gains_none_of_which_is_above_nought(self):
        case = (((1, 2), (-3, 4)), (5, 0), (0, -2))
        self.shows(case, ("most", 1, (0, 0), (0, 0)))
        self.shows(case, ("most", 1, (5, 0), (0, 0)))
        self.refuses(case, ("most", 1, (6, 0), (0, 0)))
        self.refuses(case, ("most", 1, (0, 0), (1, 0)))
        self.refuses(case, ("most", 1, (0, 0), (0, 1)))
        self.refuses(case, ("beyond", (1, 0)))
        self.refuses(case, ("beyond", (0, 0)))

    def test_what_is_told_with_one_place_otherwise(self):
        chance = random.Random(5)
        cases = [some_case(chance, chance.randint(0, 3), chance.randint(1, 3), chance.choice((1, 3))) for _ in range(25)]
        look_alike_otherwise(self, shows_most, is_sound, [(case, most_of(*case)) for case in cases])

    def test_anything(self):
        case = (((1,),), (1,), (1,))
        for thing in STRANGE:
            self.refuses(case, thing)
            for filled in ((thing,) * 2, (thing,) * 4, ("beyond", thing), ("beyond", (thing,)), ("most", thing, (1,), (1,)),
                           ("most", 1, thing, (1,)), ("most", 1, (1,), thing)):
                self.assertIs(shows_most(*case, filled), is_sound(*case, filled), filled)
        self.refuses(case, ["most", 1, (1,), (1,)])
        self.refuses(case, ("most", 1, [1], (1,)))
        self.refuses(case, ("most", 1, (1,), [1]))
        self.refuses(case, ("most", True, (1,), (1,)))
        self.refuses(case, ("most", 1, (True,), (1,)))
        self.refuses(case, ("most", 1, (1,), (True,)))
        self.refuses((((-1,),), (1,), (1,)), ("beyond", [1]))
        self.refuses((((-1,),), (1,), (1,)), ("beyond", (True,)))

    def test_the_same_again(self):
        for case in ((((1, 1), (1, 3)), (4, 6), (3, 5)), (((-1, 1),), (1,), (1, 1))):
            self.assertIs(told_twice(self, shows_most, *case, most_of(*case)), True)
            self.assertIs(told_twice(self, shows_most, *case, ("beyond", (0, 0))), False)


if __name__ == "__main__":
    unittest.main()
