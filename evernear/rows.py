"""Rows of calls: plans that answer them, the least cost, and tables that show it."""

from evernear.lists import ascends
from evernear.stands import answer_lengths, answer_table, answers_by
from evernear.towns import ways


def plan_cost(town, start, calls, plan, *, rule, reach):
    """Return the cost of the list of stands, or None if it is no plan."""
    if len(plan) != len(calls):
        return None
    lengths = answer_lengths(town, [start] + plan, calls, rule, reach)
    return None if None in lengths else sum(lengths)


def least_cost(town, start, calls, *, rule, reach):
    """Return the least cost of a plan, or None."""
    return _rests(_replies(town, len(start), calls, rule, reach), calls)[0][start]


def best_plan(town, start, calls, *, rule, reach):
    """Return the first best plan, or None."""
    replies = _replies(town, len(start), calls, rule, reach)
    rests = _rests(replies, calls)
    if rests[0][start] is None:
        return None
    stands = [start]
    for at, call in enumerate(calls):
        stands.append(_best_next(replies[stands[-1]][call], rests[at + 1])[0])
    return stands[1:]


def count_best(town, start, calls, *, rule, reach):
    """Return the number of the best plans."""
    replies = _replies(town, len(start), calls, rule, reach)
    rests = _rests(replies, calls)
    many = {start: 1}
    for at, call in enumerate(calls):
        behind = {}
        for stand, count in many.items():
            for answer in _best_next(replies[stand][call], rests[at + 1]):
                behind[answer] = behind.get(answer, 0) + count
        many = behind
    return sum(many.values())


def best_answers(town, start, calls, *, rule, reach):
    """Return the ascending list of the first stands of all best plans."""
    if not calls:
        return []
    replies = _replies(town, len(start), calls, rule, reach)
    return _best_next(replies[start][calls[0]], _rests(replies, calls)[1])


def nearest_plan(town, start, calls, *, rule, reach):
    """Return the plan of who answers each call by the first one of the shortest answers, or None."""
    table = ways(town)
    stands = [start]
    for call in calls:
        found = answers_by(table, stands[-1], call, rule, reach)
        if not found:
            return None
        # Of several that are as short, min takes the first one.
        stands.append(min(found, key=lambda reply: reply[1])[0])
    return stands[1:]


def best_start(town, helpers, calls, *, rule, reach):
    """Return the tuple (cost, stand) of the first stand with the least of all least costs, or None."""
    rests = _rests(_replies(town, helpers, calls, rule, reach), calls)
    return min([(cost, stand) for stand, cost in rests[0].items() if cost is not None], default=None)


def row_table(town, start, calls, *, rule, reach):
    """Return the table of all places and stands that can be come to, with their rests."""
    replies = _replies(town, len(start), calls, rule, reach)
    rests = _rests(replies, calls)
    reached = {start: True}
    table = [(0, start, rests[0][start])]
    for at, call in enumerate(calls):
        reached = {answer: True for stand in reached for answer, length in replies[stand][call]}
        table = table + [(at + 1, stand, rests[at + 1][stand]) for stand in sorted(reached)]
    return table


def is_row_table(town, start, calls, table, *, rule, reach):
    """Tell whether the table is right."""
    bounds = _bounds(table)
    # The same place and stand twice do not ascend, so each row of the table is in the dict.
    if not ascends([row[:2] for row in table]) or (0, start) not in bounds:
        return False
    replies = _replies(town, len(start), calls, rule, reach)
    for at, stand, bound in table:
        if not 0 <= at <= len(calls) or _is_below_nought(bound):
            return False
        if at == len(calls) and bound != 0:
            return False
        if at < len(calls) and not _is_bounded(replies[stand][calls[at]], at + 1, bounds, bound):
            return False
    return True


def shows_plan(town, start, calls, plan, table, *, rule, reach):
    """Tell whether the table shows that the list is a plan of the least cost."""
    cost = plan_cost(town, start, calls, plan, rule=rule, reach=reach)
    if cost is None or not is_row_table(town, start, calls, table, rule=rule, reach=reach):
        return False
    return _bounds(table)[0, start] == cost


def shows_no_plan(town, start, calls, table, *, rule, reach):
    """Tell whether the table shows that there is no plan."""
    return is_row_table(town, start, calls, table, rule=rule, reach=reach) and _bounds(table)[0, start] is None


def _replies(town, helpers, calls, rule, reach):
    return answer_table(town, helpers, sorted(set(calls)), rule, reach)


def _rests(replies, calls):
    """Return a list with a dict for each place of the row: the rest of each stand."""
    rests = [{stand: 0 for stand in replies}]
    for call in reversed(calls):
        behind = rests[-1]
        rests.append({stand: min(_costs(replies[stand][call], behind), default=None) for stand in replies})
    return rests[::-1]


def _costs(found, behind):
    """Return the costs by those answers behind which there is a plan."""
    return [length + behind[answer] for answer, length in found if behind[answer] is not None]


def _best_next(found, behind):
    """Return those of the answers by which the least cost comes."""
    least = min(_costs(found, behind), default=None)
    return [answer for answer, length in found if behind[answer] is not None and length + behind[answer] == least]


def _is_below_nought(bound):
    return bound is not None and bound < 0


def _is_bounded(found, at, bounds, bound):
    """Tell whether the bound is at most what comes by each answer with the bound behind it."""
    for answer, length in found:
        if (at, answer) not in bounds:
            return False
        behind = bounds[at, answer]
        if behind is not None and (bound is None or bound > length + behind):
            return False
    return True


def _bounds(table):
    return {(at, stand): bound for at, stand, bound in table}
