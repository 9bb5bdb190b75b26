import random
import signal
import unittest

from samples import told_twice
from signpoly.mosts import most_of


def dot(one, other):
    assert len(one) == len(other)
    return sum(left * right for left, right in zip(one, other))


def unit(place, length, number=1):
    return tuple(number if k == place else 0 for k in range(length))


def some_rows(chance, rows, gains, low, high):
    return tuple(tuple(chance.randint(low, high) for _ in range(gains)) for _ in range(rows))


def twisted_cube(n):
    """A cube through all of whose corners the steepest gain leads."""
    rows = tuple(tuple(2 * 2 ** (i - j) if j < i else (1 if j == i else 0) for j in range(n)) for i in range(n))
    return rows, tuple(5 ** (i + 1) for i in range(n)), tuple(2 ** (n - 1 - j) for j in range(n))


class Mosts(unittest.TestCase):
    def setUp(self):
        """A way of going on that comes round is a failure, not a wait without end."""
        def give_up(number, frame):
            raise AssertionError("no answer is told")
        before = signal.signal(signal.SIGALRM, give_up)
        self.addCleanup(signal.signal, signal.SIGALRM, before)
        self.addCleanup(signal.alarm, 0)
        signal.alarm(300)

    def are_whole(self, numbers, length):
        self.assertIs(type(numbers), tuple)
        self.assertEqual(len(numbers), length)
        for number in numbers:
            self.assertIs(type(number), int)
            self.assertGreaterEqual(number, 0)

    def check(self, rows, bounds, gains, again=True):
        """All clauses of the document of what is told; tells its word."""
        told = told_twice(self, most_of, rows, bounds, gains) if again else most_of(rows, bounds, gains)
        self.assertIs(type(told), tuple)
        self.assertIn(told[0], ("most", "beyond"))
        if told[0] == "beyond":
            self.assertEqual(len(told), 2)
            self.are_whole(told[1], len(gains))
            for row in rows:
                self.assertLessEqual(dot(row, told[1]), 0)
            self.assertGreater(dot(gains, told[1]), 0)
            return "beyond"
        self.assertEqual(len(told), 4)
        part, amounts, prices = told[1:]
        self.assertIs(type(part), int)
        self.assertGreaterEqual(part, 1)
        self.are_whole(amounts, len(gains))
        self.are_whole(prices, len(rows))
        for row, bound in zip(rows, bounds):
            self.assertLessEqual(dot(row, amounts), bound * part)
        for place, gain in enumerate(gains):
            self.assertGreaterEqual(dot([row[place] for row in rows], prices), gain * part)
        self.assertEqual(dot(bounds, prices), dot(gains, amounts))
        return "most"

    def greatest(self, rows, bounds, gains, top, bottom=1):
        """Checks that the greatest gains are top parted by bottom."""
        self.assertEqual(self.check(rows, bounds, gains), "most")
        told = most_of(rows, bounds, gains)
        self.assertEqual(dot(gains, told[2]) * bottom, top * told[1])

    def test_cases_written_out(self):
        self.greatest(((1,),), (5,), (3,), 15)
        self.greatest(((2,),), (5,), (3,), 15, 2)
        self.greatest(((1, 1), (1, 3)), (4, 6), (3, 5), 14)
        self.greatest(((1, 0), (0, 2), (3, 2)), (4, 12, 18), (3, 5), 36)
        self.greatest(((2, 1), (1, 2)), (1, 1), (1, 1), 2, 3)
        self.greatest(((-1, 1), (1, 1)), (0, 2), (-1, 2), 1)

    def test_no_rows(self):
        self.assertEqual(self.check((), (), (1,)), "beyond")
        self.assertEqual(self.check((), (), (-1, 0, 2)), "beyond")
        self.assertEqual(self.check((), (), (0,) * 63 + (1,)), "beyond")
        self.greatest((), (), (0,), 0)
        self.greatest((), (), (-1, 0, -5), 0)

    def test_bounds_of_nought(self):
        self.greatest(((1,),), (0,), (7,), 0)
        self.greatest(((1, 1), (1, -1)), (0, 0), (3, 4), 0)
        self.greatest(((-1, 1), (2, -1)), (0, 0), (1, 1), 0)
        self.assertEqual(self.check(((-1, 1), (1, -2)), (0, 0), (1, 1)), "beyond")
        self.assertEqual(self.check(((-1, 1),), (0,), (1, 1)), "beyond")
        self.assertEqual(self.check(((1, -1), (-1, 1)), (0, 0), (3, -2)), "beyond")
        self.greatest(((1, -1), (-1, 1)), (0, 0), (3, -3), 0)

    def test_gains_none_of_which_is_above_nought(self):
        self.greatest(((1, 2), (-3, 4)), (5, 6), (0, 0), 0)
        self.greatest(((1, 2), (-3, -4)), (5, 0), (-1, -2), 0)
        self.greatest(((-1, -1),), (0,), (0, -1), 0)

    def test_rows_of_noughts(self):
        self.greatest(((0, 0), (1, 1)), (0, 3), (1, 2), 6)
        self.assertEqual(self.check(((0,),), (0,), (1,)), "beyond")
        self.assertEqual(self.check(((0, 1),), (9,), (1, 1)), "beyond")

    def test_gains_that_have_no_greatest(self):
        self.assertEqual(self.check(((-1, 0), (0, 1)), (4, 4), (1, 1)), "beyond")
        self.assertEqual(self.check(((1, -1), (-2, 1)), (3, 3), (1, 0)), "beyond")
        self.assertEqual(self.check(((1, -1, 0), (0, 1, -1)), (3, 3), (1, 0, 0)), "beyond")
        self.assertEqual(self.check(((1, -1, 0), (0, 1, -1), (0, 0, 1)), (3, 3, 1), (1, 0, 0)), "most")

    def test_rows_told_twice(self):
        self.greatest(((1, 1),) * 3, (4, 4, 4), (1, 2), 8)
        self.greatest(((1, 1), (1, 1)), (4, 3), (1, 2), 6)
        self.greatest(((1, 1), (2, 2), (3, 3)), (1, 2, 3), (1, 1), 1)
        self.greatest(((1,) * 64,) * 64, (1,) * 64, (1,) * 64, 1)
        self.greatest((unit(0, 2), unit(0, 2), unit(1, 2), unit(1, 2)), (0, 0, 1, 1), (5, 7), 7)

    def test_cases_that_may_come_round(self):
        # Such as are told of by those who first saw a way of going on come round, in whole numbers.
        self.greatest(((1, -32, -4, 36), (1, -24, -1, 6), (0, 0, 1, 0)), (0, 0, 1), (3, -80, 2, -24), 5)
        self.greatest(((1, -11, -5, 18), (1, -3, -1, 2), (1, 0, 0, 0)), (0, 0, 1), (10, -57, -9, -24), 1)
        self.greatest(((-2, -9, 1, 9), (1, 3, -1, -6), (2, 3, -1, -12)), (0, 0, 2), (2, 3, -1, -12), 2)
        self.assertEqual(self.check(((1, -11, -5, 18), (1, -3, -1, 2)), (0, 0), (10, -57, -9, -24)), "beyond")
        self.assertEqual(self.check(((-2, -9, 1, 9), (1, 3, -1, -6)), (0, 0), (2, 3, -1, -12)), "beyond")

    def test_cases_that_come_round_where_ties_are_weighed_wrongly(self):
        cases = (
            (((-5, 3, 3, -2), (-4, -6, 3, 3), (-4, -2, 6, 4)), (-2, 1, 3, 6)),
            (((12, 1, 8, 11, -7), (-3, 7, -5, -12, -8), (-3, 10, -4, -6, -10), (12, -5, -3, -4, -12)), (3, 3, -1, 6, -5)),
            (((7, 11, 8, 9, 8, -12), (6, -3, 7, -9, -5, -10), (-2, -12, -2, 0, -9, 9), (8, -11, 11, -11, 4, 9)),
             (-5, -5, 12, -10, -2, -5)),
            (((-10, -12, 8, 1, -7, -5), (-9, 4, -11, -1, -9, -4), (-4, -7, 9, 3, 12, -6)), (-4, -11, -2, 2, -1, 0)),
            (((-1, 2, 1, 2, -2, -2, 1), (1, -2, 0, -1, -1, -2, 2), (-2, 1, 1, -1, 2, 2, 2), (2, 2, 1, 0, 1, 0, -2)),
             (0, -1, 1, 0, -2, 0, 2)),
            (((6, 0, -3, -2, -1, -3, 2), (6, 6, -4, 6, 3, 5, 3), (6, 4, 0, 6, 6, 6, -2), (-2, -3, -1, -2, -1, -6, 3)),
             (2, -4, -2, -5, -1, -1, 5)),
        )
        for rows, gains in cases:
            bounded = rows + ((1,) * len(gains),)
            self.assertEqual(self.check(bounded, (0,) * len(rows) + (1,), gains), "most")
            self.check(rows, (0,) * len(rows), gains)

    def test_many_choices_that_tie(self):
        chance = random.Random(7)
        pairs = [(one, other) for one in range(8) for other in range(8)]
        rows = tuple(tuple(int(one == k) for one, other in pairs) for k in range(8))
        rows += tuple(tuple(int(other == k) for one, other in pairs) for k in range(8))
        self.greatest(rows, (1,) * 16, (1,) * 64, 8)
        self.greatest(rows, (0,) * 16, (1,) * 64, 0)
        both_ways = rows + tuple(tuple(-number for number in row) for row in rows)
        for _ in range(5):
            gains = tuple(chance.randint(-3, 9) for _ in pairs)
            self.assertEqual(self.check(rows, (1,) * 16, gains), "most")
            self.assertEqual(self.check(both_ways, (1,) * 16 + (0,) * 16, gains), "most")
            self.check(both_ways, (0,) * 32, gains)
        signs = tuple(tuple((-1) ** bin(i & j).count("1") for j in range(32)) for i in range(32))
        for _ in range(5):
            gains = tuple(chance.randint(-3, 3) for _ in range(32))
            self.check(signs, (0,) * 32, gains)
            self.check(signs, (1,) * 32, gains)
            self.check(signs[1:] + signs[:1], (0,) * 31 + (1,), gains)

    def test_twisted_cubes(self):
        for n in (1, 2, 5, 12, 19, 25):
            rows, bounds, gains = twisted_cube(n)
            self.greatest(rows, bounds, gains, 5 ** n)
            self.greatest(rows[::-1], (0,) * n, gains, 0)

    def test_small_cases_of_all_kinds(self):
        chance = random.Random(11)
        words = []
        for _ in range(1500):
            rows = chance.randint(0, 5)
            gains = chance.randint(1, 5)
            most = chance.choice((1, 2, 6))
            words.append(self.check(some_rows(chance, rows, gains, -most, most),
                                    tuple(chance.choice((0, 0, 1, chance.randint(0, most))) for _ in range(rows)),
                                    tuple(chance.randint(-most, most) for _ in range(gains))))
        self.assertGreater(words.count("most"), 200)
        self.assertGreater(words.count("beyond"), 200)

    def test_great_numbers(self):
        chance = random.Random(13)
        self.greatest(((1,),), (10 ** 13,), (1,), 10 ** 13)
        self.greatest(((3, 7),), (10 ** 19,), (10 ** 19, 1), 10 ** 38, 3)
        self.greatest(((10 ** 19, 1), (1, 10 ** 19)), (1, 1), (1, 1), 2, 10 ** 19 + 1)
        for most in (10 ** 13, 10 ** 19):
            for rows, gains in ((3, 3), (8, 5), (5, 8), (12, 12)):
                for low in (0, -most // 3, -most):
                    for _ in range(4):
                        self.check(some_rows(chance, rows, gains, low, most),
                                   tuple(chance.choice((0, chance.randint(0, most))) for _ in range(rows)),
                                   tuple(chance.randint(-most // 4, most) for _ in range(gains)))

    def test_64_rows_and_64_gains(self):
        chance = random.Random(17)
        every = tuple(unit(k, 64) for k in range(64))
        bounds = tuple(chance.randint(0, 10 ** 14) for _ in range(64))
        self.greatest(every, bounds, (1,) * 64, sum(bounds))
        self.greatest(every, bounds, (-1,) + (2,) * 63, 2 * sum(bounds[1:]))
        self.assertEqual(self.check(every[1:], bounds[1:], (1,) * 64), "beyond")
        self.check(some_rows(chance, 64, 64, 0, 9), bounds, tuple(chance.randint(1, 9) for _ in range(64)))
        self.check(some_rows(chance, 64, 64, -3, 9), bounds, tuple(chance.randint(1, 9) for _ in range(64)))
        self.check(some_rows(chance, 63, 64, -1, 1) + ((1,) * 64,), (0,) * 63 + (10 ** 13,), (1,) * 64, False)
        self.check(some_rows(chance, 64, 1, -9, 9), bounds, (1,))
        self.check(some_rows(chance, 1, 64, 1, 9), bounds[:1], tuple(chance.randint(-9, 9) for _ in range(64)))

    def test_64_rows_and_64_gains_with_great_numbers(self):
        chance = random.Random(19)
        most = 10 ** 13
        rows = some_rows(chance, 63, 64, -most, most) + ((1,) * 64,)
        self.assertEqual(self.check(rows, (0,) * 63 + (most,), (1,) * 64, False), "most")
        self.check(rows, tuple(chance.randint(0, most) for _ in range(64)), rows[0], False)


if __name__ == "__main__":
    unittest.main()
