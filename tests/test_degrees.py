import random
import unittest

from samples import (KINDS, by_counts, functions_by_number, functions_of, is_sound_degree, is_sound_weak, told_in,
                     told_twice)
from signpoly.degrees import least_degree, weak_degree
from signpoly.moves import held, idle, left_out, opposite, renamed, turned
from signpoly.splits import solved
from signpoly.terms import terms_to


def functions():
    """Functions of 0 to 4 switches, full, partly told, nothing told."""
    for n in range(3):
        yield from functions_by_number(n)
    for seed in range(5):
        for n in (3, 4):
            yield from functions_of(n, seed)
    for n in (3, 4):
        yield by_counts(n, (0, 1) * 3)
        yield by_counts(n, (0, 0, 1, 1, 1))
        yield by_counts(n, (1, 0, None, 0, 1))
        yield by_counts(n, (None, 0, 1, 0, None))


def chosen(seed):
    chance = random.Random(seed)
    for n in range(4):
        for f in functions_of(n, seed) + functions_of(n, seed + 1):
            yield n, f, chance


def two_degrees(f, kind):
    """The least degree, and the weak one where a row is told."""
    return (least_degree(f, kind)[0], weak_degree(f, kind)[0] if told_in(f) else None)


class Degrees(unittest.TestCase):
    def test_least_degree(self):
        found = []
        for f in functions():
            told = [told_twice(self, least_degree, f, kind) for kind in KINDS]
            for kind, one in zip(KINDS, told):
                self.assertTrue(is_sound_degree(f, kind, one), (f, one))
            self.assertEqual(told[0][0], told[1][0])
            found.append(told[0][0])
        for degree in range(5):
            self.assertGreater(found.count(degree), 0)

    def test_least_degree_against_going_through_the_degrees(self):
        for n in range(4):
            for f in functions_of(n, 9):
                words = [solved(f, "both", terms_to(n, size))[0] for size in range(n + 1)]
                degree = words.index("poly")
                self.assertEqual(words, ["bar"] * degree + ["poly"] * (n + 1 - degree))
                self.assertEqual(least_degree(f, "both")[0], degree)
                self.assertEqual(least_degree(f, "odd")[0], degree)

    def test_weak_degree(self):
        found = []
        for f in functions():
            if not told_in(f):
                continue
            told = [told_twice(self, weak_degree, f, kind) for kind in KINDS]
            for kind, one in zip(KINDS, told):
                self.assertTrue(is_sound_weak(f, kind, one), (f, one))
            self.assertEqual(told[0][0], told[1][0])
            least = least_degree(f, "both")[0]
            self.assertLessEqual(told[0][0], least)
            found.append((told[0][0], least))
        for degree in range(5):
            self.assertIn((degree, degree), found)
        self.assertGreater(len([pair for pair in found if pair[0] < pair[1]]), 5)

    def test_nothing_told(self):
        for n in range(5):
            for kind in KINDS:
                told = least_degree((None,) * 2 ** n, kind)
                self.assertEqual(told[0], 0)
                self.assertIsNone(told[2])
                self.assertTrue(is_sound_degree((None,) * 2 ** n, kind, told))

    def test_written_out(self):
        for kind in KINDS:
            for n in range(5):
                for value in (0, 1):
                    self.assertEqual(two_degrees((value,) * 2 ** n, kind), (0, 0))
                    self.assertIsNone(least_degree((value,) * 2 ** n, kind)[2])
                    self.assertIsNone(weak_degree((value,) * 2 ** n, kind)[2])
                self.assertEqual(two_degrees(by_counts(n, (0, 1) * 3), kind), (n, n))
            self.assertEqual(two_degrees((0, 0, 0, 1), kind), (1, 1))
            self.assertEqual(two_degrees((0, 1, 1, None), kind), (1, 1))
            self.assertEqual(two_degrees(by_counts(3, (0, 0, 1, 1)), kind), (1, 1))
            self.assertEqual(two_degrees(by_counts(3, (0, 1, 1, 0)), kind), (2, 2))
            self.assertEqual(two_degrees(by_counts(4, (0, 0, 1, 0, 0)), kind), (2, 2))
            # Told unlike where the third switch is off, yes where it is on: a switch alone is nowhere wrong.
            self.assertEqual(two_degrees((0, 1, 1, 0, 1, 1, 1, 1), kind), (2, 1))
            self.assertEqual(two_degrees((0, 1, 1, 0, None, None, None, None), kind), (2, 2))

    def test_opposite_turned_renamed_and_idle_keep_both(self):
        for n, f, chance in chosen(21):
            for kind in KINDS:
                degrees = two_degrees(f, kind)
                order = tuple(chance.sample(range(n), n))
                some = tuple(k for k in range(n) if chance.random() < 0.5)
                for other in (opposite(f), turned(f, some), renamed(f, order), idle(f, chance.randint(0, n))):
                    self.assertEqual(two_degrees(other, kind), degrees, (f, other))

    def test_held_and_left_out_never_raise_the_least(self):
        lowered = 0
        for n, f, chance in chosen(31):
            for kind in KINDS:
                degree = least_degree(f, kind)[0]
                others = [left_out(f, tuple(chance.sample(range(len(f)), chance.randint(0, len(f)))))]
                others += [held(f, k, v) for k in range(n) for v in (0, 1)]
                for other in others:
                    self.assertLessEqual(least_degree(other, kind)[0], degree)
                    lowered += least_degree(other, kind)[0] < degree
        self.assertGreater(lowered, 20)


if __name__ == "__main__":
    unittest.main()
