"""The greatest sum of gains within bounds, with prices that show it, or a way on which there is no greatest."""

from signpoly.basics import greatest_part, lowered


class Table:
    """Amounts, and what each row leaves of its bound, all told by those of them that stand at nought.

    A name from 0 on is an amount, a name behind these what a row leaves. Each line says: what is in kept there,
    and the line's numbers times what is in free, come to the line's last number. The goal says likewise: the gains
    got, and its numbers times what is in free, come to its last. All numbers are to be parted by part, so that they
    stay whole.
    """

    def __init__(self, rows, bounds, gains):
        self.amounts = len(gains)
        self.lines = [list(row) + [bound] for row, bound in zip(rows, bounds)]
        self.goal = [-gain for gain in gains] + [0]
        self.part = 1
        self.free = list(range(len(gains)))
        self.kept = list(range(len(gains), len(gains) + len(rows)))


def least_ratio(places, tops, bottoms):
    """Those of the places where the top parted by the bottom, which is above nought, is least."""
    least = []
    for place in places:
        if least:
            mine = tops[place] * bottoms[least[0]]
            best = tops[least[0]] * bottoms[place]
            if mine > best:
                continue
            if mine < best:
                least = []
        least.append(place)
    return least


def weighed(table):
    """What steps are weighed by, in turn: None for the bounds, then the names of what the rows leave.

    It is as if each bound were a little more, by far less for each than for the one ahead. So no two lines come to
    nought at once, each step gains something, and no way of going on comes round to where it was.
    """
    return [None] + list(range(table.amounts, table.amounts + len(table.lines)))


def numbers_by(table, name):
    """The number by which each line has the name, of None its last one."""
    if name is None:
        return [line[-1] for line in table.lines]
    if name in table.free:
        column = table.free.index(name)
        return [line[column] for line in table.lines]
    return [table.part if kept == name else 0 for kept in table.kept]


def leaving(table, column):
    """The place of the line that comes to nought first where the column's name grows; None where none does."""
    entries = [line[column] for line in table.lines]
    places = [place for place, entry in enumerate(entries) if entry > 0]
    for name in weighed(table):
        if len(places) < 2:
            break
        places = least_ratio(places, numbers_by(table, name), entries)
    return places[0] if places else None


def gains_more(table, one, other):
    """Whether one step, a column and a place, gains more than the other."""
    mine = table.goal[one[0]] * table.lines[other[1]][other[0]]
    best = table.goal[other[0]] * table.lines[one[1]][one[0]]
    for name in weighed(table):
        numbers = numbers_by(table, name)
        # The goal's numbers of both steps are below nought, so what is less here gains more.
        more = best * numbers[other[1]] - mine * numbers[one[1]]
        if more != 0:
            return more > 0
    return False


def best_step(table):
    """The step that gains most, its place None where it gains without end; None where no step gains."""
    best = None
    for column in range(len(table.free)):
        if table.goal[column] >= 0:
            continue
        step = (column, leaving(table, column))
        if step[1] is None:
            return step
        # A step by the steepest gain alone may go through all corners of a twisted cube.
        if best is None or gains_more(table, step, best):
            best = step
    return best


def swept(line, turning, column, part):
    """The line told by what the turning line had in kept, in the place of the column's name."""
    pivot = turning[column]
    entry = line[column]
    told = [(pivot * number - entry * other) // part for number, other in zip(line, turning)]
    told[column] = -entry
    return told


def exchange(table, place, column):
    """Puts the column's name in the place of the line's, and that one in the column."""
    turning = table.lines[place]
    part = table.part
    lines = [swept(line, turning, column, part) for line in table.lines]
    lines[place] = list(turning)
    lines[place][column] = part
    table.goal = swept(table.goal, turning, column, part)
    table.lines = lines
    table.part = turning[column]
    name = table.free[column]
    table.free[column] = table.kept[place]
    table.kept[place] = name


def way_of(table, column):
    """How the amounts grow where the column's name grows without end."""
    way = [0] * table.amounts
    for place, name in enumerate(table.kept):
        if name < table.amounts:
            way[name] = -table.lines[place][column]
    if table.free[column] < table.amounts:
        way[table.free[column]] = table.part
    return lowered(way)


def amounts_of(table):
    """The amounts where all that is in free stands at nought, to be parted by part."""
    amounts = [0] * table.amounts
    for place, name in enumerate(table.kept):
        if name < table.amounts:
            amounts[name] = table.lines[place][-1]
    return amounts


def prices_of(table):
    """What the gains lose by each row's bound being less, to be parted by part."""
    prices = [0] * len(table.lines)
    for column, name in enumerate(table.free):
        if name >= table.amounts:
            prices[name - table.amounts] = table.goal[column]
    return prices


def found_most(table):
    """The answer where nothing in free gains any more, in numbers as small as they can be."""
    amounts = amounts_of(table)
    prices = prices_of(table)
    shared = greatest_part([table.part] + amounts + prices)
    return ("most", table.part // shared, tuple([number // shared for number in amounts]),
            tuple([number // shared for number in prices]))


def most_of(rows, bounds, gains):
    """The amounts with the greatest gains and the prices that show it, or the way on which there is no greatest."""
    table = Table(rows, bounds, gains)
    step = best_step(table)
    while step is not None:
        if step[1] is None:
            return ("beyond", way_of(table, step[0]))
        exchange(table, step[1], step[0])
        step = best_step(table)
    return found_most(table)
