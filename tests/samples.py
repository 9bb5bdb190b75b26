"""Inputs that several tests share, and the meaning of rows, written apart from the program."""

import copy
import random


class Prickly:
    """A thing that fails when it is compared, counted, walked or asked for its truth."""

    def fail(self, *others):
        raise RuntimeError("not to be touched")

    __eq__ = __ne__ = __lt__ = __gt__ = __le__ = __ge__ = fail
    __len__ = __bool__ = __iter__ = __getitem__ = __contains__ = __hash__ = __index__ = fail


def nested(inner, wrap, times):
    """The inner thing wrapped so many times."""
    for _ in range(times):
        inner = wrap(inner)
    return inner


def tower(times):
    """Tuples of two likes in one another: few things in memory, two to the power of times when walked."""
    return nested((), lambda inner: (inner, inner), times)


STRANGE = [
    None, True, False, 0, 1, 2, -1, 10 ** 30, "", "a", "both", "switch", "01", b"", b"01", (), [], {}, set(),
    frozenset(), frozenset({1}), object(), Prickly(), len, int, tuple, ValueError("x"), range(3), range(0), iter(()),
    (None,) * 3, ("",), ((),), ([],), ({},), (Prickly(),), (Prickly(), Prickly()), ((), ()), (0, 1, 2), {0: 1}, [0, 1],
    [None], bytearray(b"01"), lambda: 0, NotImplemented, Ellipsis, slice(0, 1), memoryview(b"01"),
    nested((), lambda inner: (inner,), 40), nested([], lambda inner: [inner], 40),
    nested({}, lambda inner: {0: inner}, 40), nested(0, lambda inner: (inner, [inner]), 40), tower(40),
    nested(("switch", 0), lambda inner: ("not", inner), 39), nested((), lambda inner: ("any", inner), 39),
    nested(("any", ()), lambda inner: ("any", (inner,) * 6), 19),
    nested(((), 1), lambda inner: ("both", (inner,)), 19),
]


def on(row, k):
    """Whether switch k is on in the row, as the document says it."""
    return row // 2 ** k % 2 == 1


def row_where(states):
    """The row in which switch k stands as states[k] says."""
    return sum(2 ** k for k, state in enumerate(states) if state)


def states_of(row, n):
    return [on(row, k) for k in range(n)]


def functions_of(n, seed=0):
    """Functions of n switches: constant ones, partly told ones, full ones, one with nothing told."""
    chance = random.Random(1000 * n + seed)
    rows = 2 ** n
    some = [(1,) * rows, (0,) * rows, (None,) * rows]
    some += [tuple(chance.choice((0, 1)) for _ in range(rows)) for _ in range(3)]
    some += [tuple(chance.choice((0, 1, None)) for _ in range(rows)) for _ in range(3)]
    return some


def subsets(n):
    """All rising tuples of switches below n."""
    return [tuple(k for k in range(n) if on(row, k)) for row in range(2 ** n)]


def told_twice(case, call, *arguments):
    """What the call tells; it must tell the same once more and leave its arguments as they were."""
    kept = copy.deepcopy(arguments)
    first = call(*arguments)
    case.assertEqual(call(*arguments), first)
    case.assertEqual(arguments, kept)
    case.assertTrue(is_plain(first), first)
    return first


def is_plain(thing):
    """Whether a told thing is made of tuples, whole numbers, texts and None, or is a truth itself."""
    if isinstance(thing, bool):
        return True
    return is_plain_within(thing)


def is_plain_within(thing):
    if type(thing) is tuple:
        return all(is_plain_within(part) for part in thing)
    return thing is None or type(thing) in (int, str)


KINDS = ("both", "odd")


def term_value(kind, term, row):
    """The value of a term at a row, as the document says it."""
    many = sum(1 for k in term if on(row, k))
    if kind == "both":
        return 1 if many == len(term) else 0
    return -1 if many % 2 == 1 else 1


def poly_value(poly, row):
    """The value of a polynomial at a row, as the document says it."""
    return sum(number * term_value(poly[0], term, row) for term, number in poly[1])


def polys_of(kind, switches=6, many=8, greatest=9):
    """Polynomials of the kind: without parts, of one part, of some, of all terms, with small and great numbers."""
    chance = random.Random(100 * switches + greatest % 97 + many)
    every = sorted(subsets(switches))
    some = [(kind, ()), (kind, (((), 1),)), (kind, (((), -3),)), (kind, ((every[-1], 2),))]
    some.append((kind, tuple((term, chance.choice((-1, 1)) * chance.randint(1, greatest)) for term in every)))
    for _ in range(many):
        terms = sorted(chance.sample(every, chance.randint(0, min(len(every), 9))))
        some.append((kind, tuple((term, chance.choice((-1, 1)) * chance.randint(1, greatest)) for term in terms)))
    return some
