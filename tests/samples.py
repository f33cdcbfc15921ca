"""Houses, formulas, tables and odd values that several tests use."""

import itertools

from countsfall.book import Book
from countsfall.desk import Desk
from countsfall.errors import CountError, NoTable, Nothing, Wrong
from countsfall.tables import fits, value_of

PAIR = (("a", 1, 1), ("b", 1, 1))
MIXED = (("a", 1, 1), ("b", 0, 2))
LOOSE = (("a", 0, 2), ("b", 0, 1))
FIRM = (("a", 1, 1), ("b", 2, 2))
HELD = (("b", 2, 3), ("d", 0, 1))
OPEN = (("a", 0, None), ("b", 1, 2))
ALL_OPEN = (("a", 0, None), ("b", 1, None))
EMPTY = (("a", 0, 0),)
HOUSES = (PAIR, MIXED, LOOSE, FIRM, HELD, OPEN, ALL_OPEN, EMPTY)

A, B = ("rank", ("a",), 1), ("rank", ("b",), 1)
BEST, WORST = ("rank", ("a", "b"), 1), ("rank", ("a", "b"), 2)
TOP = ("kth", 2, (BEST, ("rank", ("b",), 2), A))
FACTS = ((), ((A, B),), ((WORST, A), (B, TOP)))
ANSWERS = (
    (), (("is", BEST, 2),), (("is", A, None),), (("count", ("a", "b"), 2, 1),),
    (("is", A, 2), ("is", B, 0)), (("is", TOP, 1), ("count", ("b",), 2, 0)), (("is", WORST, 1), ("is", BEST, 1)),
    (("count", ("a",), 1, 1), ("count", ("a", "b"), 3, 0), ("is", B, None)), (("is", A, 1), ("is", A, 2)),
    (("count", ("b",), 0, 2), ("count", ("b",), 0, 1)), (("is", ("rank", ("b",), 3), 0), ("count", ("a", "b"), 1, 3)))

NO_FORMULAS = (None, True, 0, "rank", (), [], {}, ("rank",), ("rank", "a", 1), ("kth", 1, ()), Wrong(0))

ODD_VALUES = (
    None, True, False, 0, 1, -1, 7, 10 ** 40 - 1, "", "a", "b", "rank", "is", "open", "~" * 20, "a\nb", "(" * 100,
    (), [], {}, (None,), [None], ((),), [[]], ("a",), ["a"], ("a", "b"), (0,), (0, 0), (1, 1), [1, 1], (True, True),
    (1, 1, 1), ("a", 1, 1), ["a", 1, 1], (("a", 1, 1),), [("a", 1, 1)], (["a", 1, 1],),
    ("rank", ("a",), 1), ["rank", ("a",), 1], ("rank", ["a"], 1), ("rank", ("a",), True), ("rank", "a", 1),
    ("kth", 1, ()), ("kth", 1, []), ("is", None, None), ("count", ("a",), 1, 0), ("count", ("a",), 1, False),
    {"a": (1,)}, {"a": [1]}, {"a": (1,), "b": (2,)}, {"b": (2,), "a": (1,)}, {"a": (True,)}, {None: 1, 2: ()},
    {(1, 2): [{}], True: "a"}, {"a": {}, 1: [], ("a",): ()}, Wrong(0), Wrong([]), Nothing(), NoTable({}), CountError(),
    Wrong, CountError, int, len, ((((((((((((((((((((),),),),),),),),),),),),),),),),),),),),
    ((5, (1, 1)),), ((1, 1), (0, 1)), [(1, 1)], (((1, 1),),), ("fact", 1, 2), (1,) * 2999, ["a"] * 2999,
    # Objects of the package, which can be compared, but are no keys of a dict.
    Book(PAIR), (Book(PAIR),), [Book(PAIR), Book(PAIR)], (Book(PAIR), ("a",), 1), ("rank", (Book(PAIR),), 1),
    ("rank", Book(PAIR), 1), {"a": Book(PAIR)}, {"a": (Book(PAIR),)}, (("a", Book(PAIR), None),), Desk,
)


def sizes_from(house, beyond=2):
    """Return all sizes that a house lets, of open sorts up to so many rows more than least."""
    ranges = [range(least, (least + beyond if most is None else most) + 1) for _, least, most in house]
    return list(itertools.product(*ranges))


def tables_with(house, numbers, beyond=2):
    """Return all tables of a house with these numbers, of open sorts up to so many rows more than least."""
    found = []
    for sizes in sizes_from(house, beyond):
        rows = [itertools.combinations_with_replacement(numbers, size) for size in sizes]
        for choice in itertools.product(*rows):
            found.append({sort[0]: numbers_of_sort for sort, numbers_of_sort in zip(house, choice)})
    return found


def counts_within(limits):
    """Return the ascending list of all counts within limits."""
    return list(itertools.product(*[range(limit + 1) for limit in limits]))


def is_within(one, other):
    """Return whether no item of one is greater than that of other."""
    return all(few <= many for few, many in zip(one, other))


def ranks_of(house, most=2):
    """Return all ranks of a house with k up to most."""
    names = [sort[0] for sort in house]
    lots = [lot for size in range(1, len(names) + 1) for lot in itertools.combinations(names, size)]
    return [("rank", lot, k) for lot in lots for k in range(1, most + 1)]


def formulas_of(house, most=2):
    """Return ranks and formulas over them, up to three deep."""
    ranks = ranks_of(house, most)
    couples = [("kth", k, pair) for pair in itertools.combinations_with_replacement(ranks, 2) for k in (1, 2)]
    deeper = [("kth", k, (couples[k], ranks[0], ranks[-1])) for k in (1, 2, 3)]
    deepest = [("kth", 1 + k % 2, (deeper[k], couples[-1 - k])) for k in (0, 1, 2)]
    return ranks + couples + deeper + deepest


def greatest_rank(formula):
    """Return the greatest k of the ranks in a formula."""
    if formula[0] == "rank":
        return formula[2]
    return max(greatest_rank(part) for part in formula[2])


def plain_caps(house, formulas):
    """Return the caps by some formulas, worked out from the words of the document."""
    depth = max([1] + [greatest_rank(formula) for formula in formulas])
    return tuple(depth if most is None else min(most, depth) for _, _, most in house)


def broken(thing):
    """Return copies of a nested tuple, each with one part of another kind, at any depth."""
    if isinstance(thing, tuple):
        found = [list(thing), None, True, "x", 5, {}, Wrong(0)]
        for at, part in enumerate(thing):
            found.extend(thing[:at] + (other,) + thing[at + 1:] for other in broken(part))
        return found
    if isinstance(thing, str):
        return [None, True, 0, "", "?", "A", thing + "#", "abcdefg", [thing], (thing,), thing.upper(), Wrong(0)]
    if thing is None:
        return [True, False, "None", "open", (), [], Wrong(0)]
    return [True, False, str(thing), (thing,), [thing], {}, Wrong(0)]


def cases_of(house):
    """Return cases of a house with the sorts a and b."""
    return [(house, facts, answers) for facts in FACTS for answers in ANSWERS]


def numbers_by(rungs):
    """Return the ascending list of the rungs and one integer of each gap between them, below and above them."""
    if not rungs:
        return [0]
    between = [low + 1 for low, high in zip(rungs, rungs[1:]) if high - low > 1]
    return sorted([rungs[0] - 2] + rungs + between + [rungs[-1] + 3])


def place_by(rungs, value):
    """Return the place, by rungs, in which a value lies."""
    if value is None:
        return ("none",)
    if value in rungs:
        return ("rung", value)
    return ("gap", max([rung for rung in rungs if rung < value], default=None),
            min([rung for rung in rungs if rung > value], default=None))


def plain_places(rungs):
    """Return the list of all places by rungs, by the words of the document."""
    places = [("none",)]
    for low, high in zip([None] + rungs, rungs + [None]):
        if low is None or high is None or high - low > 1:
            places.append(("gap", low, high))
        places.extend([("rung", high)] if high is not None else [])
    return places


def far_numbers(case):
    """Return integers among which are all rungs of a case, three of each gap or all of it, and some beyond."""
    rungs = sorted({rung for answer in case[2] for rung in (
        (answer[2] - 1, answer[2]) if answer[0] == "count" else () if answer[2] is None else (answer[2],))})
    low, high = (rungs[0], rungs[-1]) if rungs else (0, 0)
    near = [number for rung in rungs for number in range(rung - 3, rung + 4)]
    return sorted(set(near + list(range(low - 3, low)) + list(range(high, high + 4))))


def fitting_tables(case, beyond=2):
    """Return all tables that fit a case and have no other numbers than far_numbers."""
    return [table for table in tables_with(case[0], far_numbers(case), beyond) if fits(case, table)]


def values_by(tables, house, ask, formula):
    """Return the dict from each value of an ask to the set of the values of a formula beside it."""
    found = {}
    for table in tables:
        found.setdefault(value_of(house, table, ask), set()).add(value_of(house, table, formula))
    return found
