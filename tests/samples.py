"""Towns for the tests, and the document's words worked out in the plainest way, to compare with."""

from itertools import combinations, combinations_with_replacement, permutations, product

TOWN = (4, [(0, 1, 2), (0, 2, 9), (1, 2, 3), (2, 3, 1)])
LINE = (4, [(0, 1, 1), (1, 2, 1), (2, 3, 1)])
TWO_PIECES = (5, [(0, 1, 2), (0, 3, 1), (2, 4, 5)])
FULL = (7, [(a, b, 9 if a == 0 else 1) for a, b in combinations(range(7), 2)])
# The move from (0, 1) to (1, 2) is 5 by one long way, and 6 if the reach allows short ways alone.
TRIANGLE = (3, [(0, 1, 3), (0, 2, 5), (1, 2, 3)])
SAMPLES = [TOWN, LINE, TWO_PIECES, (1, []), (2, []), (2, [(0, 1, 9)]), TRIANGLE]

NO_WHOLE_NUMBERS = [True, False, None, "1", "", 1.0, 0.5, float("nan"), b"1", [1], (1,), (), {}, 1j, object()]


def towns_of(places, lengths):
    """Every town of so many places whose roads have these lengths, None for no road."""
    pairs = list(combinations(range(places), 2))
    for chosen in product(lengths, repeat=len(pairs)):
        yield places, [(a, b, n) for (a, b), n in zip(pairs, chosen) if n is not None]


def plain_way(town, first, second, seen=()):
    """The least sum of lengths over all rows of roads that come to no place twice."""
    if first == second:
        return 0
    found = []
    for a, b, length in town[1]:
        for here, there in ((a, b), (b, a)):
            if here == first and there not in seen:
                rest = plain_way(town, there, second, (*seen, first))
                if rest is not None:
                    found.append(length + rest)
    return min(found, default=None)


def plain_ways(town):
    return {(a, b): plain_way(town, a, b) for a in range(town[0]) for b in range(town[0])}


def plain_stands(town, helpers):
    return sorted(combinations_with_replacement(range(town[0]), helpers))


def plain_move(between, first, second, reach):
    """The least length of a pairing all of whose ways are at most the reach, None if there is none."""
    found = []
    for order in permutations(second):
        steps = [between[pair] for pair in zip(first, order)]
        if all(step is not None and step <= reach for step in steps):
            found.append(sum(steps))
    return min(found, default=None)


def plain_answers(town, between, stand, call, rule, reach):
    if rule == "one" and call in stand:
        return [(stand, 0)]
    found = {}
    if rule == "one":
        for at, place in enumerate(stand):
            step = between[place, call]
            if step is not None and step <= reach:
                behind = tuple(sorted((*stand[:at], call, *stand[at + 1:])))
                found[behind] = min(step, found.get(behind, step))
    else:
        for behind in plain_stands(town, len(stand)):
            length = plain_move(between, stand, behind, reach)
            if call in behind and length is not None:
                found[behind] = length
    return sorted(found.items())
