"""Towns for the tests, and the document's words worked out in the plainest way, to compare with."""

from itertools import combinations, combinations_with_replacement, permutations, product
from random import Random

TOWN = (4, [(0, 1, 2), (0, 2, 9), (1, 2, 3), (2, 3, 1)])
LINE = (4, [(0, 1, 1), (1, 2, 1), (2, 3, 1)])
TWO_PIECES = (5, [(0, 1, 2), (0, 3, 1), (2, 4, 5)])
FULL = (7, [(a, b, 9 if a == 0 else 1) for a, b in combinations(range(7), 2)])
# The move from (0, 1) to (1, 2) is 5 by one long way, and 6 if the reach allows short ways alone.
TRIANGLE = (3, [(0, 1, 3), (0, 2, 5), (1, 2, 3)])
SAMPLES = [TOWN, LINE, TWO_PIECES, (1, []), (2, []), (2, [(0, 1, 9)]), TRIANGLE]

NO_WHOLE_NUMBERS = [True, False, None, "1", "", 1.0, 0.5, float("nan"), b"1", [1], (1,), (), {}, 1j, object()]


def towns_of(places, lengths):
    """Every town of so many places whose roads have these lengths, None for no road."""
    pairs = list(combinations(range(places), 2))
    for chosen in product(lengths, repeat=len(pairs)):
        yield places, [(a, b, n) for (a, b), n in zip(pairs, chosen) if n is not None]


def plain_way(town, first, second, seen=()):
    """The least sum of lengths over all rows of roads that come to no place twice."""
    if first == second:
        return 0
    found = []
    for a, b, length in town[1]:
        for here, there in ((a, b), (b, a)):
            if here == first and there not in seen:
                rest = plain_way(town, there, second, (*seen, first))
                if rest is not None:
                    found.append(length + rest)
    return min(found, default=None)


WAYS = {}


def plain_ways(town):
    """All ways by their two places; kept, as many tests ask for them."""
    key = repr(town)
    if key not in WAYS:
        WAYS[key] = {(a, b): plain_way(town, a, b) for a in range(town[0]) for b in range(town[0])}
    return WAYS[key]


def plain_stands(town, helpers):
    return sorted(combinations_with_replacement(range(town[0]), helpers))


def plain_move(between, first, second, reach):
    """The least length of a pairing all of whose ways are at most the reach, None if there is none."""
    found = []
    for order in permutations(second):
        steps = [between[pair] for pair in zip(first, order)]
        if all(step is not None and step <= reach for step in steps):
            found.append(sum(steps))
    return min(found, default=None)


def plain_answers(town, between, stand, call, rule, reach):
    if rule == "one" and call in stand:
        return [(stand, 0)]
    found = {}
    if rule == "one":
        for at, place in enumerate(stand):
            step = between[place, call]
            if step is not None and step <= reach:
                behind = tuple(sorted((*stand[:at], call, *stand[at + 1:])))
                found[behind] = min(step, found.get(behind, step))
    else:
        for behind in plain_stands(town, len(stand)):
            length = plain_move(between, stand, behind, reach)
            if call in behind and length is not None:
                found[behind] = length
    return sorted(found.items())


REPLIES = {}


def plain_replies(town, helpers, rule, reach):
    """The answers of each stand of so many helpers to a call from each place; kept, as many tests ask for them."""
    key = repr((town, helpers, rule, reach))
    if key not in REPLIES:
        between = plain_ways(town)
        REPLIES[key] = {}
        for stand in plain_stands(town, helpers):
            if rule == "one":
                found = {call: plain_answers(town, between, stand, call, rule, reach) for call in range(town[0])}
            else:
                moves = [(other, plain_move(between, stand, other, reach)) for other in plain_stands(town, helpers)]
                found = {
                    call: [(other, length) for other, length in moves if call in other and length is not None]
                    for call in range(town[0])
                }
            REPLIES[key].update({(stand, call): replies for call, replies in found.items()})
    return REPLIES[key]


RANKS = {}


def plain_ranks(town, helpers, rule, reach, calls):
    """For each stand the least number of calls that it cannot answer whatever they are, None if there is none."""
    key = repr((town, helpers, rule, reach, calls))
    if key not in RANKS:
        RANKS[key] = ranks_worked_out(town, helpers, rule, reach, calls)
    return dict(RANKS[key])


def ranks_worked_out(town, helpers, rule, reach, calls):
    replies = plain_replies(town, helpers, rule, reach)
    found = {stand: None for stand in plain_stands(town, helpers)}
    able = set(found)
    for many in range(1, len(found) + 2):
        now = {
            stand for stand in able
            if all(any(answer in able for answer, _ in replies[stand, call]) for call in calls)
        }
        for stand in able - now:
            found[stand] = many
        able = now
    return found


def plain_best(replies, ranks, stand, call):
    """The best answer: safe ones ahead of others, then the greatest rank, then the shortest, then the first."""
    found = []
    for answer, length in replies[stand, call]:
        rank = ranks[answer]
        found.append((0 if rank is None else 1, 0 if rank is None else -rank, length, answer))
    if not found:
        return None
    best = sorted(found)[0]
    return best[3], best[2]


def parts_of(values):
    """All lists of some of the values, at least one, in their order."""
    return [list(part) for many in range(1, len(values) + 1) for part in combinations(values, many)]


def spread_town(seed, places, roads, lengths=range(1, 10)):
    """A town of one piece that looks like any other one; the same one for the same numbers."""
    rng = Random(seed)
    pairs = {(rng.randrange(place), place) for place in range(1, places)}
    rest = [pair for pair in combinations(range(places), 2) if pair not in pairs]
    pairs.update(rng.sample(rest, min(roads - len(pairs), len(rest))))
    return places, [(a, b, rng.choice(list(lengths))) for a, b in sorted(pairs)]
