import itertools
import unittest

from samples import functions_of, on, row_where, states_of, subsets, told_twice
from signpoly.functions import is_function
from signpoly.moves import held, idle, left_out, opposite, renamed, turned


def distinct_rows(n):
    """Functions that together tell each row from each other one: row r by the figures of its number."""
    bits = [tuple(row // 2 ** k % 2 for row in range(2 ** n)) for k in range(n)]
    return bits + [tuple(None if value else 1 for value in bit) for bit in bits] + functions_of(n)


class Moves(unittest.TestCase):
    def check(self, made, n, expected):
        self.assertTrue(is_function(made))
        self.assertEqual(len(made), 2 ** n)
        for row in range(2 ** n):
            self.assertEqual(made[row], expected(row))

    def test_opposite(self):
        self.assertEqual(opposite((1, 0, None, 1)), (0, 1, None, 0))
        for n in range(7):
            for f in distinct_rows(n):
                made = told_twice(self, opposite, f)
                self.check(made, n, lambda row: {1: 0, 0: 1, None: None}[f[row]])

    def test_turned(self):
        self.assertEqual(turned((1, 0, None, 0), (0,)), (0, 1, 0, None))
        self.assertEqual(turned((1, 0, None, 0), (1,)), (None, 0, 1, 0))
        for n in range(7):
            for f in distinct_rows(n):
                for some in subsets(n):
                    made = turned(f, some)
                    self.check(made, n, lambda row: f[row_where([state != (k in some)
                                                                 for k, state in enumerate(states_of(row, n))])])

    def test_turned_by_none_and_all(self):
        for n in range(7):
            for f in functions_of(n):
                self.assertEqual(told_twice(self, turned, f, ()), f)
                self.assertEqual(told_twice(self, turned, f, tuple(range(n))), f[::-1])

    def renamed_by_meaning(self, f, order, n, row):
        there = [None] * n
        for k in range(n):
            there[order[k]] = on(row, k)
        return f[row_where(there)]

    def test_renamed_by_every_order_of_few(self):
        for n in range(5):
            for f in distinct_rows(n):
                for order in itertools.permutations(range(n)):
                    made = renamed(f, order)
                    self.check(made, n, lambda row: self.renamed_by_meaning(f, order, n, row))

    def test_renamed_by_orders_of_many(self):
        orders = {5: [(0, 1, 2, 3, 4), (4, 3, 2, 1, 0), (1, 2, 3, 4, 0), (2, 0, 1, 4, 3)],
                  6: [(0, 1, 2, 3, 4, 5), (5, 4, 3, 2, 1, 0), (1, 2, 3, 4, 5, 0), (3, 5, 0, 1, 4, 2)]}
        for n, some in orders.items():
            for f in distinct_rows(n):
                for order in some:
                    made = told_twice(self, renamed, f, order)
                    self.check(made, n, lambda row: self.renamed_by_meaning(f, order, n, row))

    def test_renamed_by_an_order_that_is_not_its_own_reverse(self):
        # Switch 0 does now what switch 1 did, switch 1 what switch 2 did, switch 2 what switch 0 did.
        first_alone = tuple(row % 2 for row in range(8))
        third_alone = tuple(row // 4 for row in range(8))
        self.assertEqual(renamed(first_alone, (1, 2, 0)), third_alone)
        self.assertEqual(renamed((0, 1, 0, 0, 0, 0, 0, 0), (1, 2, 0)), (0, 0, 0, 0, 1, 0, 0, 0))

    def test_idle(self):
        self.assertEqual(idle((1, 0), 0), (1, 1, 0, 0))
        self.assertEqual(idle((1, 0), 1), (1, 0, 1, 0))
        self.assertEqual(idle((None,), 0), (None, None))
        for n in range(6):
            for f in distinct_rows(n):
                for k in range(n + 1):
                    made = told_twice(self, idle, f, k)
                    self.check(made, n + 1, lambda row: f[row_where([on(row, other if other < k else other + 1)
                                                                     for other in range(n)])])

    def test_held(self):
        self.assertEqual(held((1, 0), 0, 0), (1,))
        self.assertEqual(held((1, 0), 0, 1), (0,))
        self.assertEqual(held((1, 0, None, 1), 1, 1), (None, 1))
        for n in range(1, 7):
            for f in distinct_rows(n):
                for k in range(n):
                    for v in (0, 1):
                        made = told_twice(self, held, f, k, v)
                        self.check(made, n - 1, lambda row: self.held_by_meaning(f, k, v, n, row))

    def held_by_meaning(self, f, k, v, n, row):
        states = states_of(row, n - 1)
        return f[row_where(states[:k] + [v == 1] + states[k:])]

    def test_held_takes_back_idle(self):
        for n in range(6):
            for f in functions_of(n):
                for k in range(n + 1):
                    for v in (0, 1):
                        self.assertEqual(held(idle(f, k), k, v), f)

    def test_left_out(self):
        self.assertEqual(left_out((1, 0, None, 1), (3, 0, 3)), (None, 0, None, None))
        for n in range(7):
            every = tuple(range(2 ** n))
            for f in functions_of(n):
                self.assertEqual(told_twice(self, left_out, f, ()), f)
                self.assertEqual(told_twice(self, left_out, f, every), (None,) * 2 ** n)
                for rows in (every[::2], every[::-3], every[::3] + every[::2], (0, 0), every[-1:] * 2 + every[:1]):
                    made = told_twice(self, left_out, f, rows)
                    self.check(made, n, lambda row: None if row in rows else f[row])


if __name__ == "__main__":
    unittest.main()
