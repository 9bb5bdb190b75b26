"""Inputs that several tests share, and the meaning of rows, written apart from the program."""

import copy
import fractions
import itertools
import math
import random


class Prickly:
    """A thing that fails when it is compared, counted, walked or asked for its truth."""

    def fail(self, *others):
        raise RuntimeError("not to be touched")

    __eq__ = __ne__ = __lt__ = __gt__ = __le__ = __ge__ = fail
    __len__ = __bool__ = __iter__ = __getitem__ = __contains__ = __hash__ = __index__ = fail


def nested(inner, wrap, times):
    """The inner thing wrapped so many times."""
    for _ in range(times):
        inner = wrap(inner)
    return inner


def tower(times):
    """Tuples of two likes in one another: few things in memory, two to the power of times when walked."""
    return nested((), lambda inner: (inner, inner), times)


STRANGE = [
    None, True, False, 0, 1, 2, -1, 10 ** 30, "", "a", "both", "switch", "01", b"", b"01", (), [], {}, set(),
    frozenset(), frozenset({1}), object(), Prickly(), len, int, tuple, ValueError("x"), range(3), range(0), iter(()),
    (None,) * 3, ("",), ((),), ([],), ({},), (Prickly(),), (Prickly(), Prickly()), ((), ()), (0, 1, 2), {0: 1}, [0, 1],
    [None], bytearray(b"01"), lambda: 0, NotImplemented, Ellipsis, slice(0, 1), memoryview(b"01"),
    nested((), lambda inner: (inner,), 40), nested([], lambda inner: [inner], 40),
    nested({}, lambda inner: {0: inner}, 40), nested(0, lambda inner: (inner, [inner]), 40), tower(40),
    nested(("switch", 0), lambda inner: ("not", inner), 39), nested((), lambda inner: ("any", inner), 39),
    nested(("any", ()), lambda inner: ("any", (inner,) * 6), 19),
    nested(((), 1), lambda inner: ("both", (inner,)), 19),
]


def on(row, k):
    """Whether switch k is on in the row, as the document says it."""
    return row // 2 ** k % 2 == 1


def row_where(states):
    """The row in which switch k stands as states[k] says."""
    return sum(2 ** k for k, state in enumerate(states) if state)


def states_of(row, n):
    return [on(row, k) for k in range(n)]


def functions_of(n, seed=0):
    """Functions of n switches: constant ones, partly told ones, full ones, one with nothing told."""
    chance = random.Random(1000 * n + seed)
    rows = 2 ** n
    some = [(1,) * rows, (0,) * rows, (None,) * rows]
    some += [tuple(chance.choice((0, 1)) for _ in range(rows)) for _ in range(3)]
    some += [tuple(chance.choice((0, 1, None)) for _ in range(rows)) for _ in range(3)]
    return some


def subsets(n):
    """All rising tuples of switches below n."""
    return [tuple(k for k in range(n) if on(row, k)) for row in range(2 ** n)]


def told_twice(case, call, *arguments):
    """What the call tells; it must tell the same once more and leave its arguments as they were."""
    kept = copy.deepcopy(arguments)
    first = call(*arguments)
    case.assertEqual(call(*arguments), first)
    case.assertEqual(arguments, kept)
    case.assertTrue(is_plain(first), first)
    return first


def is_plain(thing):
    """Whether a told thing is made of tuples, whole numbers, texts and None, or is a truth itself."""
    if isinstance(thing, bool):
        return True
    return is_plain_within(thing)


def is_plain_within(thing):
    if type(thing) is tuple:
        return all(is_plain_within(part) for part in thing)
    return thing is None or type(thing) in (int, str)


def some_rule(chance, deep):
    """A rule by chance, nested at most so deep, and how many rules it is."""
    word = chance.choice(("switch", "not", "all", "any", "odd", "least"))
    if word == "switch" or (word == "not" and deep == 1):
        return ("switch", chance.randrange(6)), 1
    if word == "not":
        inner, many = some_rule(chance, deep - 1)
        return ("not", inner), many + 1
    parts = [] if deep == 1 else [some_rule(chance, deep - 1) for _ in range(chance.randint(0, 6))]
    head = ("least", chance.randint(0, 9)) if word == "least" else (word,)
    return head + (tuple(part for part, many in parts),), sum(many for part, many in parts) + 1


def some_rules(seed, many):
    """So many rules by chance, of at most forty rules each."""
    chance = random.Random(seed)
    found = []
    while len(found) < many:
        rule, size = some_rule(chance, chance.randint(1, 6))
        if size <= 40:
            found.append(rule)
    return found


KINDS = ("both", "odd")


def term_value(kind, term, row):
    """The value of a term at a row, as the document says it."""
    many = sum(1 for k in term if on(row, k))
    if kind == "both":
        return 1 if many == len(term) else 0
    return -1 if many % 2 == 1 else 1


def poly_value(poly, row):
    """The value of a polynomial at a row, as the document says it."""
    return sum(number * term_value(poly[0], term, row) for term, number in poly[1])


def polys_of(kind, switches=6, many=8, greatest=9):
    """Polynomials of the kind: without parts, of one part, of some, of all terms, with small and great numbers."""
    chance = random.Random(100 * switches + greatest % 97 + many)
    every = sorted(subsets(switches))
    some = [(kind, ()), (kind, (((), 1),)), (kind, (((), -3),)), (kind, ((every[-1], 2),))]
    some.append((kind, tuple((term, chance.choice((-1, 1)) * chance.randint(1, greatest)) for term in every)))
    for _ in range(many):
        terms = sorted(chance.sample(every, chance.randint(0, min(len(every), 9))))
        some.append((kind, tuple((term, chance.choice((-1, 1)) * chance.randint(1, greatest)) for term in terms)))
    return some


def told_in(f):
    """The rows that are told, each with its sign, as the document says it."""
    return [(row, 1 if value == 1 else -1) for row, value in enumerate(f) if value is not None]


def weighted_sum(f, kind, term, weights):
    """The weighted sum of a term, as the document says it."""
    return sum(weights[row] * sign * term_value(kind, term, row) for row, sign in told_in(f))


def some_terms(n, chance):
    """Terms of n switches: none, the one without a switch, some, all to each size."""
    every = sorted(subsets(n))
    choices = [(), ((),), every[-1:]]
    choices += [chance.sample(every, chance.randint(0, len(every))) for _ in range(2)]
    choices += [[term for term in every if len(term) <= size] for size in range(n + 1)]
    return [tuple(sorted(terms)) for terms in choices]


def choose(chance, things, many):
    """So many of the things, all where they are fewer."""
    return chance.sample(things, min(many, len(things)))


def otherwise(thing):
    """The thing with one place of it, or itself, otherwise, each in turn."""
    yield from (None, True, False, 0, 1, "", "odd", "most", (), [thing], (thing,), Prickly(), tower(40))
    if type(thing) is int:
        yield from (thing + 1, thing - 1, -thing, 2 * thing, str(thing), thing + 10 ** 25)
        if thing in (0, 1):
            yield thing == 1
    if type(thing) is str:
        yield from (thing + "s", thing.upper(), thing.encode(), "both", "beyond", "bar", "poly")
    if type(thing) is tuple:
        yield from (list(thing), thing + thing[-1:], thing + (0,), thing + (None,), thing[::-1], dict.fromkeys(range(len(thing))))
        for place, part in enumerate(thing):
            yield thing[:place] + thing[place + 1:]
            yield thing[:place] + (part, part) + thing[place + 1:]
            yield thing[:place] + thing[place:place + 2][::-1] + thing[place + 2:]
            for other in otherwise(part):
                yield thing[:place] + (other,) + thing[place + 1:]


def strange_weights():
    """Things in the place of weights of one or two rows, some of which are weights."""
    for thing in STRANGE + [(1, 1), (1,), (1, 0), (0, 1), (True,), (True, True), [1], [1, 1], ((1,), (1,))]:
        yield from (thing, (thing,), (thing, thing), (1, thing), [thing])


def is_row(thing, many):
    """Whether it is a tuple of so many whole numbers from 0 on."""
    return type(thing) is tuple and len(thing) == many and all(type(number) is int and number >= 0 for number in thing)


def is_tuple_of(thing, many):
    return type(thing) is tuple and len(thing) == many


def is_sound_poly(kind, terms, thing):
    """Whether it is a polynomial of the kind, of these terms alone."""
    if not is_tuple_of(thing, 2) or type(thing[0]) is not str or thing[0] != kind or type(thing[1]) is not tuple:
        return False
    found = []
    for part in thing[1]:
        if not is_tuple_of(part, 2) or type(part[0]) is not tuple or type(part[1]) is not int or part[1] == 0:
            return False
        if not all(type(k) is int for k in part[0]) or part[0] not in terms:
            return False
        found.append(part[0])
    return found == sorted(set(found))


def are_sound_weights(f, thing):
    """Whether it is weights of the function."""
    return is_row(thing, len(f)) and all(number == 0 for number, value in zip(thing, f) if value is None)


def is_sound_bar(f, kind, terms, thing):
    """Whether it is a bar, as the document says it."""
    return (are_sound_weights(f, thing) and sum(thing) > 0
            and all(weighted_sum(f, kind, term, thing) == 0 for term in terms))


def is_sound_split(f, kind, terms, thing):
    """Whether it is a split, as the document says it."""
    if not is_tuple_of(thing, 2) or not is_sound_poly(kind, terms, thing[0]) or not are_sound_weights(f, thing[1]):
        return False
    values = [(sign * poly_value(thing[0], row), thing[1][row]) for row, sign in told_in(f)]
    return (all(value >= 0 for value, weight in values)
            and all(weighted_sum(f, kind, term, thing[1]) == 0 for term in terms)
            and all((value != 0) + (weight != 0) == 1 for value, weight in values))


def does_tell(poly, f):
    """Whether the polynomial tells the function."""
    return all(sign * poly_value(poly, row) > 0 for row, sign in told_in(f))


def terms_below(n, size):
    """All terms of n switches of fewer than so many switches."""
    return [term for term in subsets(n) if len(term) < size]


def is_sound_degree(f, kind, thing):
    """Whether it is (degree, poly, bar), as the document says it."""
    n = len(f).bit_length() - 1
    if not is_tuple_of(thing, 3) or type(thing[0]) is not int or not is_sound_poly(kind, subsets(n), thing[1]):
        return False
    if max([len(term) for term, number in thing[1][1]], default=0) != thing[0] or not does_tell(thing[1], f):
        return False
    return thing[2] is None if thing[0] == 0 else is_sound_bar(f, kind, terms_below(n, thing[0]), thing[2])


def is_sound_weak(f, kind, thing):
    """Whether it is (degree, poly, weights) of the weak degree, as the document says it."""
    n = len(f).bit_length() - 1
    if not is_tuple_of(thing, 3) or type(thing[0]) is not int or not is_sound_poly(kind, subsets(n), thing[1]):
        return False
    values = [sign * poly_value(thing[1], row) for row, sign in told_in(f)]
    if max([len(term) for term, number in thing[1][1]], default=0) != thing[0] or min(values) < 0 or max(values) == 0:
        return False
    if thing[0] == 0:
        return thing[2] is None
    return (is_sound_bar(f, kind, terms_below(n, thing[0]), thing[2])
            and all(thing[2][row] > 0 for row, sign in told_in(f)))


def functions_by_number(n, values=(0, 1, None)):
    """All functions of n switches with these values."""
    for number in range(len(values) ** 2 ** n):
        yield tuple(values[number // len(values) ** row % len(values)] for row in range(2 ** n))


def is_sound_widest(f, kind, terms, thing):
    """Whether it is (value, poly, weights) of the widest margin, as the document says it."""
    if not is_tuple_of(thing, 3) or not is_tuple_of(thing[0], 2) or not all(type(part) is int for part in thing[0]):
        return False
    top, bottom = thing[0]
    if bottom < 1 or top < 0 or math.gcd(top, bottom) != 1 or not are_sound_weights(f, thing[2]) or not any(thing[2]):
        return False
    if any(abs(weighted_sum(f, kind, term, thing[2])) * bottom > top * sum(thing[2]) for term in terms):
        return False
    if top == 0:
        return thing[1] is None
    if not is_sound_poly(kind, terms, thing[1]) or thing[1][1] == ():
        return False
    numbers = [number for term, number in thing[1][1]]
    return math.gcd(*numbers) == 1 and margin(f, thing[1]) == fractions.Fraction(top, bottom)


def margin(f, poly):
    """The margin of a polynomial with a part, as the document says it."""
    size = sum(abs(number) for term, number in poly[1])
    return min(fractions.Fraction(sign * poly_value(poly, row), size) for row, sign in told_in(f))


def is_sound_fewest(f, kind, thing):
    """Whether it is (poly, bars) of the fewest terms, as the document says it."""
    every = sorted(subsets(len(f).bit_length() - 1))
    if not is_tuple_of(thing, 2) or not is_sound_poly(kind, every, thing[0]) or not does_tell(thing[0], f):
        return False
    parts = len(thing[0][1])
    asked = [] if parts == 0 else list(itertools.combinations(every, parts - 1))
    if not is_tuple_of(thing[1], len(asked)):
        return False
    for terms, pair in zip(asked, thing[1]):
        if not is_tuple_of(pair, 2) or not is_tuple_of(pair[0], len(terms)):
            return False
        for one, other in zip(pair[0], terms):
            if not is_row(one, len(other)) or one != other:
                return False
        if not is_sound_bar(f, kind, terms, pair[1]):
            return False
    return True


def is_sound_leaf(f, kind, terms, size, leaf, nodes):
    """Whether a leaf shows, by the nodes (number of a term, v, whether by one) of its way, what the document says."""
    if not is_tuple_of(leaf, 5) or not are_sound_weights(f, leaf[1]) or type(leaf[4]) is not int or leaf[4] < 0:
        return False
    if not is_row(leaf[2], len(terms)) or not is_row(leaf[3], len(terms)):
        return False
    together = sum(leaf[1])
    for j, term in enumerate(terms):
        least = max([v + 1 for number, v, by_one in nodes if number == j and not by_one], default=None)
        most = min([v for number, v, by_one in nodes if number == j and by_one], default=None)
        if (least is None and leaf[2][j] != 0) or (most is None and leaf[3][j] != 0):
            return False
        together += leaf[2][j] * (least or 0) - leaf[3][j] * (most or 0)
        if abs(weighted_sum(f, kind, term, leaf[1]) + leaf[2][j] - leaf[3][j]) > leaf[4]:
            return False
    return together > leaf[4] * (size - 1)


def is_sound_tree(f, kind, terms, size, tree, nodes=()):
    """Whether a tree shows that no numbers of size - 1 or less tell the function, as the document says it."""
    if type(tree) is not tuple or len(tree) == 0 or type(tree[0]) is not str:
        return False
    if tree[0] == "leaf":
        return is_sound_leaf(f, kind, terms, size, tree, nodes)
    if tree[0] != "part" or len(tree) != 5 or type(tree[1]) is not int or type(tree[2]) is not int:
        return False
    if not 0 <= tree[1] < len(terms):
        return False
    return (is_sound_tree(f, kind, terms, size, tree[3], nodes + ((tree[1], tree[2], True),))
            and is_sound_tree(f, kind, terms, size, tree[4], nodes + ((tree[1], tree[2], False),)))


def is_sound_size(f, kind, terms, thing):
    """Whether it is (poly, tree) of the least size, as the document says it."""
    if not is_tuple_of(thing, 2) or not is_sound_poly(kind, terms, thing[0]) or not does_tell(thing[0], f):
        return False
    size = sum(abs(number) for term, number in thing[0][1])
    return is_tuple_of(thing[1], 0) if size == 0 else is_sound_tree(f, kind, terms, size, thing[1])


def is_sound_alone(f, kind, terms, thing):
    """Whether it is ("alone", poly) or ("other", numbers, part), as the document says it."""
    if type(thing) is not tuple or len(thing) == 0 or type(thing[0]) is not str:
        return False
    if thing[0] == "alone":
        return len(thing) == 2 and is_sound_poly(kind, terms, thing[1]) and does_tell(thing[1], f)
    if thing[0] != "other" or len(thing) != 3 or type(thing[2]) is not int or thing[2] < 1:
        return False
    numbers, part = thing[1:]
    if not is_tuple_of(numbers, len(f)) or not all(type(number) is int and abs(number) <= part for number in numbers):
        return False
    signs = [2 * value - 1 for value in f]
    if list(numbers) == [part * sign for sign in signs]:
        return False
    for term in terms:
        values = [term_value(kind, term, row) for row in range(len(f))]
        if sum(map(math.prod, zip(numbers, values))) != part * sum(map(math.prod, zip(signs, values))):
            return False
    return True


def full_functions(n, seed=0):
    """Full functions of n switches: all of few, the constant ones and some by chance of more."""
    if n < 3:
        return list(functions_by_number(n, (0, 1)))
    chance = random.Random(100 * n + seed)
    return [(0,) * 2 ** n, (1,) * 2 ** n] + [tuple(chance.choice((0, 1)) for _ in range(2 ** n)) for _ in range(8)]


def by_counts(n, values):
    """The function that tells values[c] where c of n switches are on."""
    return tuple(values[bin(row).count("1")] for row in range(2 ** n))


def look_alike_otherwise(case, looker, sound, papers):
    """Checks that the looker takes, of papers with one place otherwise, just those that are sound.

    papers are pairs: the arguments ahead of the paper, and the paper.
    """
    told = {True: 0, False: 0}
    for arguments, paper in papers:
        for thing in otherwise(paper):
            shown = looker(*arguments, thing)
            case.assertIs(shown, sound(*arguments, thing), (arguments, thing))
            told[shown] += 1
    case.assertGreater(told[True], 50)
    case.assertGreater(told[False], 1000)
