"""Calls by chances: how likely all of them are answered, and the least mean of the ways that are gone."""

from math import gcd

from evernear.errors import BadNumber, BadSize
from evernear.means import best_leads
from evernear.ratios import is_less, lowest, plus, shared_divisor
from evernear.stands import NO_REACH, answer_table, answers_to_each, stands_of
from evernear.towns import is_whole, ways

MOST_DIVISOR = 100


def check_chances(town, chances):
    """Raise the first error that is due for the chances of the town's places."""
    if len(chances) != town[0]:
        raise BadSize()
    if not all(_is_chance(over, under) for over, under in chances):
        raise BadNumber()
    total = (0, 1)
    for chance in chances:
        total = plus(total, chance)
    if total != (1, 1):
        raise BadNumber()


def answered_chance(town, stand, chances, *, rule, reach, many):
    """Return the greatest chance with which so many calls are all answered, beginning with the stand."""
    return dict(chance_table(town, len(stand), chances, rule=rule, reach=reach, many=many))[stand]


def chance_table(town, helpers, chances, *, rule, reach, many):
    """Return the ascending list of the tuples (stand, chance) of all stands with their greatest chances."""
    weights, whole = _weights(chances)
    replies = answer_table(town, helpers, list(weights), rule, reach)
    found = {stand: 1 for stand in replies}
    under = 1
    for _ in range(many):
        found = {stand: _likeliest(replies[stand], found, weights) for stand in replies}
        under = under * whole
    return [(stand, lowest(over, under)) for stand, over in found.items()]


def mean_total(town, stand, chances, *, many):
    """Return the least mean of the lengths of so many answers together."""
    weights, whole = _weights(chances)
    replies = answer_table(town, len(stand), list(weights), "one", NO_REACH)
    totals = {here: 0 for here in replies}
    under = 1
    for _ in range(many):
        totals = {here: _side(replies[here], totals, under, weights) for here in replies}
        under = under * whole
    return lowest(totals[stand], under)


def side_of(town, stand, chances, rows):
    """Return the side of the stand by the rows of a paper."""
    weights, whole = _weights(chances)
    shared = shared_divisor([lead for here, lead in rows])
    leads = {here: over * (shared // under) for here, (over, under) in rows}
    replies = answers_to_each(ways(town), stand, list(weights), "one", NO_REACH)
    return lowest(_side(replies, leads, shared, weights), shared * whole)


def is_above(town, helpers, chances, paper):
    """Tell whether the paper bounds from above."""
    if not _is_paper(town, helpers, paper):
        return False
    return not any(is_less(limit, side) for limit, side in _limits_and_sides(town, chances, paper))


def is_below(town, helpers, chances, paper):
    """Tell whether the paper bounds from below."""
    if not _is_paper(town, helpers, paper):
        return False
    return not any(is_less(side, limit) for limit, side in _limits_and_sides(town, chances, paper))


def least_mean(town, helpers, chances):
    """Return the least mean."""
    return mean_paper(town, helpers, chances)[0]


def mean_paper(town, helpers, chances):
    """Return a paper that bounds from above and from below."""
    weights, whole = _weights(chances)
    replies = answer_table(town, helpers, list(weights), "one", NO_REACH)
    number, leads, shared = best_leads(replies, weights, whole)
    return (number, [(stand, lowest(over, shared)) for stand, over in leads.items()])


def _is_chance(over, under):
    if not is_whole(over) or not is_whole(under):
        return False
    return 0 <= over <= under and 1 <= under <= MOST_DIVISOR and gcd(over, under) == 1


def _weights(chances):
    """Return a dict with the weight of each place from which calls can come, and the sum of all weights."""
    whole = shared_divisor(chances)
    return {place: over * (whole // under) for place, (over, under) in enumerate(chances) if over > 0}, whole


def _likeliest(replies, found, weights):
    """Return the sum of the greatest numbers of the answers to each call, by the weights of the calls."""
    return sum([
        weight * max([found[answer] for answer, length in replies[call]], default=0) for call, weight in weights.items()
    ])


def _side(replies, leads, shared, weights):
    """Return the sum of the least lengths with their leads, by the weights; the leads are over the shared divisor."""
    return sum([
        weight * min([length * shared + leads[answer] for answer, length in replies[call]])
        for call, weight in weights.items()
    ])


def _is_paper(town, helpers, paper):
    return sorted([stand for stand, lead in paper[1]]) == stands_of(town, helpers)


def _limits_and_sides(town, chances, paper):
    """Return for each stand of the paper its lead and the number together, and its side."""
    number, rows = paper
    return [(plus(lead, number), side_of(town, stand, chances, rows)) for stand, lead in rows]
