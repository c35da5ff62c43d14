"""Plain answers from the definitions, and small families, for the tests to compare with."""

import random
from fractions import Fraction
from itertools import combinations

from shortbynarrow.families import Family
from shortbynarrow.filling import fill
from shortbynarrow.loads import loads_of
from shortbynarrow.rows import Row
from shortbynarrow.trees import Leaf, Vote


def subsets(things):
    """Return all sets of some of the things, as tuples."""
    things = tuple(things)
    return [s for k in range(len(things) + 1) for s in combinations(things, k)]


def least_sets(sets):
    """Return the sets that hold no other one, ascending."""
    pool = {frozenset(s) for s in sets}
    return tuple(sorted(tuple(sorted(s)) for s in pool if not any(t < s for t in pool)))


def blocker_of(lots, things):
    """Return the least sets of 0 .. things - 1 that meet every lot."""
    return least_sets(s for s in subsets(range(things)) if all(set(s) & set(a) for a in lots))


def random_family(rng, things, most_lots=8):
    """Return a family made of a few sets that are not empty."""
    many = rng.randint(1, most_lots)
    lots = [rng.sample(range(things), rng.randint(1, things)) for _ in range(many)]
    return Family(things, lots)


def some_families(seed, count, most_things=5, most_lots=8):
    """Return random families of 1 to most_things things."""
    rng = random.Random(seed)
    return [random_family(rng, rng.randint(1, most_things), most_lots) for _ in range(count)]


def all_families(things):
    """Return every family of this many things."""
    found = []
    sets = [s for s in subsets(range(things)) if s]

    def grow(chosen, place):
        if place == len(sets):
            if chosen:
                found.append(Family(things, chosen))
            return
        grow(chosen, place + 1)
        fresh = set(sets[place])
        if not any(set(s) <= fresh or fresh <= set(s) for s in chosen):
            grow(chosen + [sets[place]], place + 1)

    grow([], 0)
    return found


def fraction(value):
    """Return the Fraction of an amount."""
    return Fraction(value[0], value[1])


def fractions(row):
    """Return the entries of a Row as Fractions."""
    return [fraction(entry) for entry in row]


def amount_of(value):
    """Return the amount of a Fraction."""
    return (value.numerator, value.denominator)


def is_amount(value):
    """Tell whether the value is an amount as it is returned: a tuple in least terms."""
    return (type(value) is tuple and len(value) == 2 and all(type(part) is int for part in value)
            and value[0] >= 0 and value[1] >= 1
            and amount_of(Fraction(value[0], value[1])) == value)


NOT_NUMBERS = [None, True, False, "1", 1.0, [1], (1,), {}, b"1"]
NOT_LISTS = [None, 5, True, "ab", {0: 1}, {0}, 1.5]


def random_row_of(rng, size, most=4, bottom=3):
    """Return a random Row; some entries are 0."""
    return Row([rng.choice([0, rng.randint(0, most)]) for _ in range(size)], rng.randint(1, bottom))


def short_of(lots, entries):
    """Return the least sum of Fractions on one of the lots."""
    return min(sum((entries[e] for e in lot), Fraction(0)) for lot in lots)


def solution_of(rows, values, size):
    """Return the only solution of the equations as Fractions, None if there is not just one."""
    table = [[Fraction(v) for v in row] + [Fraction(value)] for row, value in zip(rows, values)]
    for column in range(size):
        main = next((k for k in range(column, len(table)) if table[k][column]), None)
        if main is None:
            return None
        table[column], table[main] = table[main], table[column]
        table[column] = [v / table[column][column] for v in table[column]]
        for k, row in enumerate(table):
            if k != column and row[column]:
                table[k] = [a - row[column] * b for a, b in zip(row, table[column])]
    if any(row[size] for row in table[size:]):
        return None
    return [row[size] for row in table[:size]]


def corners_by_definition(family):
    """Return all corners as tuples of Fractions, ascending: one for each set of equations that tells one."""
    size = family.things
    equations = [([1 if e in lot else 0 for e in range(size)], 1) for lot in family.lots]
    equations += [([1 if e == f else 0 for e in range(size)], 0) for f in range(size)]
    found = set()
    for chosen in combinations(equations, size):
        point = solution_of([row for row, _ in chosen], [value for _, value in chosen], size)
        if point is not None and min(point) >= 0 and short_of(family.lots, point) >= 1:
            found.add(tuple(point))
    return sorted(found)


def useless_beside(family, places, things):
    """Return the family with its things at these places of so many things; the others are useless."""
    return Family(things, [[places[e] for e in lot] for lot in family.lots])


def random_cover(rng, family):
    """Return a random row that is raised until it is a cover."""
    row = random_row_of(rng, family.things, 3, 3)
    while short_of(family.lots, fractions(row)) < 1:
        row = row.with_entry(rng.randrange(family.things), (rng.randint(1, 6), 3))
    return row


def sum_of(*rows):
    """Return the sum of the products of the entries of some rows as a Fraction."""
    total = Fraction(0)
    for entries in zip(*[fractions(row) for row in rows]):
        product = Fraction(1)
        for entry in entries:
            product *= entry
        total += product
    return total


def pairs_by_definition(family):
    """Return all pairs of corners, x ascending, then y ascending, as tuples of Fractions."""
    ours, theirs = corners_by_definition(family), corners_by_definition(~family)
    return [(x, y) for x in ours for y in theirs]


def price_by_definition(pairs, tolls):
    """Return the least sum of the pairs, and those that have it."""
    entries = fractions(tolls)
    sums = [sum(q * a * b for q, a, b in zip(entries, x, y)) for x, y in pairs]
    return min(sums), [pair for pair, value in zip(pairs, sums) if value == min(sums)]


def tuples(row):
    """Return the entries of a Row as a tuple of Fractions."""
    return tuple(fractions(row))


def rich_families(seed, count, least_things=3, most_things=7):
    """Return random families of lots of middle sizes, of which many have broken corners."""
    rng = random.Random(seed)
    found = []
    for _ in range(count):
        things = rng.randint(least_things, most_things)
        most = max(2, things // 2 + 1)
        lots = [rng.sample(range(things), rng.randint(2, most)) for _ in range(rng.randint(3, 2 * things))]
        found.append(Family(things, lots))
    return found


def is_mix_of(lots, entries):
    """Tell whether the Fractions are exactly the row of a mix of some of the lots."""
    for chosen in subsets(lots):
        rows = [[int(e in lot) for lot in chosen] for e in range(len(entries))] + [[1] * len(chosen)]
        weights = solution_of(rows, [*entries, 1], len(chosen)) if chosen else None
        if weights is not None and min(weights) >= 0:
            return True
    return False


def random_mix(rng, family):
    """Return the row of a random mix of a few lots of the family, a Row."""
    lots = rng.sample(family.lots, rng.randint(1, min(3, len(family.lots))))
    weights = [rng.randint(1, 4) for _ in lots]
    tops = [sum(weight for weight, lot in zip(weights, lots) if e in lot) for e in range(family.things)]
    return Row(tops, sum(weights))


def positive_row_of(rng, size, most=4, bottom=3):
    """Return a random Row without an entry 0."""
    return Row([rng.randint(1, most) for _ in range(size)], rng.randint(1, bottom))


def contacts_by_loads(family, weights):
    """Return the least sum of weight times entry over the rows that have at least 1 with each load, a Fraction."""
    loads = loads_of(family)
    columns = [list(load.tops) for load in loads]
    return fraction(fill(columns, [load.bottom for load in loads], weights)[0])


def random_tree(rng, names, most_branches=3):
    """Return a random tree whose leaves have these names from the left; some votes have one branch."""
    if len(names) == 1 and rng.random() < 0.8:
        return Leaf(names[0])
    many = rng.randint(1, min(most_branches, len(names)))
    cuts = sorted(rng.sample(range(1, len(names)), many - 1))
    pieces = [names[start:end] for start, end in zip([0, *cuts], [*cuts, len(names)])]
    branches = [random_tree(rng, piece, most_branches) for piece in pieces]
    return Vote(rng.randint(1, many), branches)


def once_trees(seed, count, most_names=6, room=9):
    """Return random trees in which each name is on one leaf."""
    rng = random.Random(seed)
    return [random_tree(rng, rng.sample(range(room), rng.randint(1, most_names)), rng.randint(2, 6))
            for _ in range(count)]


def any_trees(seed, count, most_leaves=8, room=5):
    """Return random trees in which names may be on several leaves."""
    rng = random.Random(seed)
    return [random_tree(rng, [rng.randrange(room) for _ in range(rng.randint(1, most_leaves))], rng.randint(2, 4))
            for _ in range(count)]


def says_yes(tree, things):
    """Tell whether a tree says yes to a set, from the definition."""
    if isinstance(tree, Leaf):
        return tree.name in things
    return sum(says_yes(branch, things) for branch in tree.branches) >= tree.need


def family_of_tree(tree, size):
    """Return the family of the least sets that a tree says yes to, from the definition."""
    return Family(size, least_sets(s for s in subsets(range(size)) if says_yes(tree, s)))


def lean_rows_by_definition(family):
    """Return the rows that are enough, are 0 at useless things and are told by equations, ascending, as tuples."""
    useful = family.useful
    loads = sorted({tuple(a * b for a, b in zip(x, y)) for x, y in pairs_by_definition(family)})
    loads = [load for load in loads if not any(u != load and all(a <= b for a, b in zip(u, load)) for u in loads)]
    equations = [([load[e] for e in useful], 1) for load in loads]
    # a row that is enough has at least 1 at each useful thing, so no entry is 0
    found = set()
    for chosen in combinations(equations, len(useful)):
        point = solution_of([row for row, _ in chosen], [value for _, value in chosen], len(useful))
        if point is not None and min(point) >= 0:
            if all(sum(a * b for a, b in zip(row, point)) >= 1 for row, _ in equations):
                row = [Fraction(0)] * family.things
                for e, value in zip(useful, point):
                    row[e] = value
                found.add(tuple(row))
    return sorted(found)


def is_lean_row(family, row):
    """Tell whether a Row is enough, 0 at useless things, and the only row with 1 on the loads that it has 1 on."""
    useful = family.useful
    entries = fractions(row)
    if any(entries[e] for e in range(family.things) if e not in useful):
        return False
    rows = []
    for load in loads_of(family):
        total = sum(a * b for a, b in zip(fractions(load), entries))
        if total < 1:
            return False
        if total == 1:
            rows.append([fraction(load[e]) for e in useful])
    rows += [[int(e == f) for f in useful] for e in useful if entries[e] == 0]
    values = [sum(a * entries[e] for a, e in zip(row, useful)) for row in rows]
    return solution_of(rows, values, len(useful)) is not None
