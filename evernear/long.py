"""Calls without end: the least rate, leads that bound it, and answerings and callings that reach it."""

from evernear.lists import come_to
from evernear.ratios import is_less, lowest, plus
from evernear.stands import NO_REACH, answer_table, answers_by, moves_from, stands_of
from evernear.towns import ways


def least_rate(town, helpers, calls, *, rule):
    """Return the least rate."""
    totals, growth = _round_of_totals(_replies(town, helpers, calls, rule))
    return lowest(growth, len(totals))


def rows_above(town, helpers, calls, *, rule):
    """Return rows of leads from above for the least rate."""
    leads, under = _leads_above(_replies(town, helpers, calls, rule))
    return [(stand, lowest(over, under)) for stand, over in leads.items()]


def rows_below(town, helpers, calls, *, rule):
    """Return rows of leads from below for the least rate."""
    leads, under = _leads_below(_replies(town, helpers, calls, rule))
    return [(stand, lowest(over, under)) for stand, over in leads.items()]


def is_above(town, helpers, calls, rate, rows, *, rule):
    """Tell whether these are rows of leads from above for the rate."""
    if not _are_leads(town, helpers, rows):
        return False
    leads = dict(rows)
    replies = _replies(town, helpers, calls, rule)
    for stand, lead in rows:
        limit = plus(lead, rate)
        if not all(_some_at_most(found, leads, limit) for found in list(replies[stand].values())):
            return False
    return True


def is_below(town, helpers, calls, rate, rows, *, rule):
    """Tell whether these are rows of leads from below for the rate."""
    if not _are_leads(town, helpers, rows):
        return False
    leads = dict(rows)
    replies = _replies(town, helpers, calls, rule)
    for stand, lead in rows:
        limit = plus(lead, rate)
        if not any(_all_at_least(found, leads, limit) for found in list(replies[stand].values())):
            return False
    return True


def best_answering(town, helpers, calls, *, rule):
    """Return an answering whose worst rate from each stand is the least rate."""
    replies = _replies(town, helpers, calls, rule)
    leads, under = _leads_above(replies)
    return [(stand, call, _answer_by(replies[stand][call], leads, under)) for stand in replies for call in calls]


def best_calling(town, helpers, calls, *, rule):
    """Return a calling against which the best rate from each stand is the least rate."""
    replies = _replies(town, helpers, calls, rule)
    leads, under = _leads_below(replies)
    return [(stand, _call_by(replies[stand], leads, under)) for stand in replies]


def worst_rate(town, answering, stand):
    """Return the worst rate of the answering from the stand."""
    table = ways(town)
    steps = {here: [] for here, call, answer in answering}
    moves = {here: moves_from(table, here, NO_REACH) for here in steps}
    for here, call, answer in answering:
        steps[here].append((answer, moves[here][answer]))
    return _greatest_rate(steps, stand)


def best_rate(town, calling, stand, *, rule):
    """Return the best rate against the calling from the stand."""
    table = ways(town)
    steps = {here: _below_nought(answers_by(table, here, call, rule, NO_REACH)) for here, call in calling}
    over, under = _greatest_rate(steps, stand)
    return (-over, under)


def _replies(town, helpers, calls, rule):
    return answer_table(town, helpers, calls, rule, NO_REACH)


def _round_of_totals(replies):
    """Return the least totals, stand by stand, for some numbers of calls one behind the other, and a growth.

    Behind the last of these numbers the first totals come again, each with the growth added to it, and so for ever.
    As the totals of two stands never differ by more than the move between them, such a round always comes."""
    totals = {stand: 0 for stand in replies}
    rows = []
    seen = {}
    shape, base = _shape(totals)
    while shape not in seen:
        seen[shape] = (len(rows), base)
        rows.append(totals)
        totals = {stand: _worst_total(replies[stand], totals) for stand in replies}
        shape, base = _shape(totals)
    at, base_there = seen[shape]
    return rows[at:], base - base_there


def _shape(totals):
    """Return how much each total is above the least one, and the least one."""
    base = min(totals.values())
    return tuple([total - base for total in totals.values()]), base


def _worst_total(replies, totals):
    """Return the least total with one call more, if the worst one comes first."""
    return max([min([length + totals[answer] for answer, length in found]) for found in replies.values()])


def _leads_above(replies):
    """Return a dict with a lead from above for each stand, and what all of them are to be divided by."""
    leads, under = _leads_of_round(replies)
    return {stand: min(row) for stand, row in leads.items()}, under


def _leads_below(replies):
    """Return a dict with a lead from below for each stand, and what all of them are to be divided by."""
    leads, under = _leads_of_round(replies)
    return {stand: max(row) for stand, row in leads.items()}, under


def _leads_of_round(replies):
    """Return a dict with the leads of each stand in a round, by how much its totals are above the rate.

    One call more leads from each totals of the round to the next ones. Answers that are best for the least of the
    leads do no worse, so these are from above; and likewise the greatest ones are from below."""
    totals, growth = _round_of_totals(replies)
    many = len(totals)
    return {stand: [row[stand] * many - at * growth for at, row in enumerate(totals)] for stand in replies}, many


def _are_leads(town, helpers, rows):
    return [stand for stand, lead in rows] == stands_of(town, helpers)


def _some_at_most(found, leads, limit):
    return any(not is_less(limit, plus((length, 1), leads[answer])) for answer, length in found)


def _all_at_least(found, leads, limit):
    return all(not is_less(plus((length, 1), leads[answer]), limit) for answer, length in found)


def _answer_by(found, leads, under):
    """Return the answer with the least length and lead together."""
    return min(found, key=lambda reply: reply[1] * under + leads[reply[0]])[0]


def _call_by(replies, leads, under):
    """Return the call for which the least length and lead together are greatest."""
    least = {call: min([length * under + leads[answer] for answer, length in replies[call]]) for call in replies}
    return max(replies, key=lambda call: least[call])


def _below_nought(found):
    return [(answer, -length) for answer, length in found]


def _greatest_rate(steps, start):
    """Return the greatest rate of a round that can be come to.

    By the theorem of Karp: with as many steps as there are stands, each greatest sum has gone through some round. From
    the greatest sum of less steps to the same stand it rises by some rate, and the least of these counts for it."""
    many = len(come_to(steps, start))
    sums = [{start: 0}]
    for _ in range(many):
        sums.append(_with_one_step_more(steps, sums[-1]))
    rates = [_least_rise(sums, stand) for stand in sums[many]]
    best = rates[0]
    for rate in rates:
        best = rate if is_less(best, rate) else best
    return lowest(best[0], best[1])


def _with_one_step_more(steps, sums):
    found = {}
    for stand, total in sums.items():
        for answer, length in steps[stand]:
            found[answer] = max(total + length, found.get(answer, total + length))
    return found


def _least_rise(sums, stand):
    """Return the least rate of the rises of the sum from fewer steps to the most ones."""
    many = len(sums) - 1
    rises = [(sums[many][stand] - sums[at][stand], many - at) for at in range(many) if stand in sums[at]]
    best = rises[0]
    for rise in rises:
        best = rise if is_less(rise, best) else best
    return best
