import unittest

from samples import STRANGE, Prickly, functions_of, nested, told_twice, tower
from signpoly.functions import is_function, switches_of, told_rows

LENGTHS = (1, 2, 4, 8, 16, 32, 64)


class IsFunction(unittest.TestCase):
    def test_each_length_that_is_a_power_of_two_to_64(self):
        for length in LENGTHS:
            for value in (0, 1, None):
                self.assertIs(is_function((value,) * length), True)

    def test_functions_of_all_kinds_of_values(self):
        for n in range(7):
            for f in functions_of(n):
                self.assertIs(told_twice(self, is_function, f), True)

    def test_other_lengths(self):
        for length in range(0, 131):
            if length not in LENGTHS:
                self.assertIs(is_function((0,) * length), False, length)
                self.assertIs(is_function((None,) * length), False, length)

    def test_other_values_at_each_place(self):
        others = (True, False, 2, -1, 10 ** 20, "1", "0", "", "None", (), (0,), (None,), [], [0], {}, {0: 1}, set(),
                  b"1", object(), Prickly(), nested(0, lambda inner: (inner,), 39), nested(1, lambda inner: [inner], 39))
        for length in LENGTHS:
            for place in {0, length // 2, length - 1}:
                for other in others:
                    values = [1, 0, None, 0] * length
                    values[place] = other
                    self.assertIs(is_function(tuple(values[:length])), False)

    def test_a_list_of_right_values(self):
        for length in LENGTHS:
            self.assertIs(is_function([0] * length), False)
        self.assertIs(is_function({0: 1}), False)
        self.assertIs(is_function("01"), False)
        self.assertIs(is_function(range(1)), False)
        self.assertIs(is_function(range(2)), False)

    def test_things_of_other_kinds(self):
        for thing in STRANGE:
            self.assertIs(is_function(thing), False)
            self.assertIs(is_function((thing,)), thing is None or (type(thing) is int and thing in (0, 1)))

    def test_things_nested_deep(self):
        self.assertIs(is_function(tower(40)), False)
        self.assertIs(is_function((tower(39), 0)), False)


class SwitchesAndRows(unittest.TestCase):
    def test_switches_of(self):
        for n in range(7):
            for f in functions_of(n):
                self.assertEqual(told_twice(self, switches_of, f), n)

    def test_told_rows(self):
        self.assertEqual(told_rows((None,)), ())
        self.assertEqual(told_rows((0,)), (0,))
        self.assertEqual(told_rows((1,)), (0,))
        self.assertEqual(told_rows((None, 0, 1, None)), (1, 2))
        self.assertEqual(told_rows((0, None, None, 0)), (0, 3))

    def test_told_rows_against_each_value(self):
        for n in range(7):
            self.assertEqual(told_rows((None,) * 2 ** n), ())
            self.assertEqual(told_rows((0,) * 2 ** n), tuple(range(2 ** n)))
            for f in functions_of(n):
                told = told_twice(self, told_rows, f)
                self.assertEqual(list(told), sorted(set(told)))
                for row in range(2 ** n):
                    self.assertEqual(row in told, f[row] is not None)


if __name__ == "__main__":
    unittest.main()
