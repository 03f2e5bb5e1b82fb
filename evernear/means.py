"""The least mean against calls by chances, found by bettering a choice of answers until none is better.

A choice is a dict with a dict for each stand: the chosen answer to each call, a tuple of the stand and the length."""

from evernear.lists import come_to
from evernear.ratios import lowest


def best_leads(replies, weights, whole):
    """Return the least mean, a dict with a lead for each stand, and what these leads are to be divided by.

    By each choice all stands lead to an end, so it has one mean; a lead tells how much more is gone from a stand than
    from the end. While a home is bettered the mean becomes less, or leads of homes do and none becomes greater; from
    then on the same holds for the leads of all stands. So no choice comes twice, and one is left that is best."""
    homes = _homes(replies, weights)
    # Where each called place has a helper nobody goes any more; otherwise one can go from each stand to each home.
    ends = homes if all(call in homes[0] for call in weights) else homes[:1]
    choice = {}
    better = {stand: {call: _nearest(found) for call, found in calls.items()} for stand, calls in replies.items()}
    while better != choice:
        choice = _drawn_to(ends, replies, better)
        number, leads, shared = _valued(choice, weights, whole, ends)
        better = {stand: _bettered(replies[stand], choice[stand], leads, shared) for stand in replies}
        # A bettered home to which one comes back from everywhere has a lesser mean than the end.
        fresh = [home for home in homes if better[home] != choice[home] and _comes_back(home, better)]
        ends = fresh[:1] or ends
    return number, leads, shared


def _homes(replies, weights):
    """Return the stands in which the most called places have a helper; no answer leads from these to others."""
    covered = {stand: len([call for call in weights if call in stand]) for stand in replies}
    most = max(covered.values())
    return [stand for stand in replies if covered[stand] == most]


def _nearest(found):
    return min(found, key=lambda reply: reply[1])


def _drawn_to(ends, replies, choice):
    """Return the choice, changed at some of those stands from which it never leads to an end."""
    drawn = {here: dict(calls) for here, calls in choice.items()}
    near = _leading_to(ends, drawn)
    while len(near) < len(drawn):
        stand, call, reply = _step_into(near, replies)
        drawn[stand][call] = reply
        near = _leading_to(ends, drawn)
    return drawn


def _leading_to(ends, choice):
    """Return a dict of the stands from which the choice can lead to one of the ends."""
    near = {}
    fresh = list(ends)
    while fresh:
        for stand in fresh:
            near[stand] = True
        fresh = [other for other in choice if other not in near and _leads_into(near, choice[other])]
    return near


def _leads_into(near, chosen):
    return any(answer in near for answer, length in list(chosen.values()))


def _step_into(near, replies):
    """Return a stand that is not near, and a call with an answer that is."""
    steps = [
        (stand, call, reply)
        for stand in replies if stand not in near
        for call, found in replies[stand].items()
        for reply in found if reply[0] in near
    ]
    return steps[0]


def _comes_back(home, choice):
    """Tell whether the choice leads back to this stand from each one to which it leads from it."""
    near = _leading_to([home], choice)
    reached = come_to({stand: list(chosen.values()) for stand, chosen in choice.items()}, home)
    return all(stand in near for stand in reached)


def _valued(choice, weights, whole, ends):
    """Return the mean of the choice, a dict with its leads, and what these are to be divided by."""
    solved, divisor = _solved([_equation(stand, choice, weights, whole, ends) for stand in choice])
    lengths = {stand: row[0] for stand, row in zip(choice, solved)}
    counts = {stand: row[1] for stand, row in zip(choice, solved)}
    length = lengths[ends[0]]
    count = counts[ends[0]]
    leads = {stand: lengths[stand] * count - counts[stand] * length for stand in choice}
    return lowest(length, count), leads, divisor * count


def _equation(stand, choice, weights, whole, ends):
    """Return what holds for the mean length from this stand until an end is come to, and for the mean number of calls.

    It has a number for each stand. These, times what is sought for the stands, make together the last number but one
    for the lengths, and the last number for the calls."""
    row = {other: 0 for other in choice}
    row[stand] = whole
    gone = 0
    for call, weight in weights.items():
        answer, length = choice[stand][call]
        gone = gone + weight * length
        if answer not in ends:
            row[answer] = row[answer] - weight
    return list(row.values()) + [gone, whole]


def _solved(rows):
    """Return for each stand both numbers that are sought by the equations, and what all are to be divided by.

    Each step takes one sought number out of all rows but its own. By Bareiss no division leaves a rest; no pivot is 0,
    as from each stand the choice leads to an end."""
    divisor = 1
    for at in range(len(rows)):
        pivot = rows[at]
        rows = [row[1:] if other == at else _without_first(row, pivot, divisor) for other, row in enumerate(rows)]
        divisor = pivot[0]
    return rows, divisor


def _without_first(row, pivot, divisor):
    return [(pivot[0] * row[at] - row[0] * pivot[at]) // divisor for at in range(1, len(row))]


def _bettered(replies, chosen, leads, shared):
    """Return the chosen answers, each replaced where another one costs less, with its lead."""
    return {call: _cheapest(found, chosen[call], leads, shared) for call, found in replies.items()}


def _cheapest(found, kept, leads, shared):
    costs = {reply: reply[1] * shared + leads[reply[0]] for reply in found}
    best = min(found, key=lambda reply: costs[reply])
    # What costs as much stays, else the choice might change for ever.
    return best if costs[best] < costs[kept] else kept
