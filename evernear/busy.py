"""Helpers who are busy for some calls behind each one to which they went."""

from evernear.closed import beaten_ranks, is_closed_table
from evernear.stands import stands_of
from evernear.towns import in_reach, ways

MOST_REST = 3


def rested(stand):
    """Return the state in which all helpers of the stand are free."""
    return tuple([(place, 0) for place in stand])


def busy_answers(town, state, call, *, reach, rest):
    """Return the ascending list of the answers of the state."""
    return _answers(ways(town), state, call, reach, rest)


def safe_states(town, helpers, calls, *, reach, rest):
    """Return the ascending list of all safe states of so many helpers."""
    states = _states(town, helpers, rest)
    beaten = beaten_ranks(_answer_table(town, states, calls, reach, rest))
    return [state for state in states if state not in beaten]


def is_closed_busy(town, states, calls, *, reach, rest):
    """Tell whether each of the states has an answer in the list to each call."""
    return is_closed_table(_answer_table(town, states, calls, reach, rest))


def safe_when_rested(town, helpers, calls, *, reach, rest):
    """Return the ascending list of the stands that are safe when rested."""
    safe = {state: True for state in safe_states(town, helpers, calls, reach=reach, rest=rest)}
    return [stand for stand in stands_of(town, helpers) if rested(stand) in safe]


def can_keep_busy(town, helpers, calls, *, reach, rest):
    """Tell whether the town can be kept with the rest by so many helpers."""
    return len(safe_when_rested(town, helpers, calls, reach=reach, rest=rest)) > 0


def most_rest(town, helpers, calls, *, reach):
    """Return the greatest rest with which the town can be kept, or None."""
    for rest in range(MOST_REST, -1, -1):
        if can_keep_busy(town, helpers, calls, reach=reach, rest=rest):
            return rest
    return None


def _states(town, helpers, rest):
    """Return the ascending list of all states of so many helpers."""
    single = [(place, left) for place in range(town[0]) for left in range(rest + 1)]
    found = [()]
    for _ in range(helpers):
        found = [(*state, one) for state in found for one in single if not state or state[-1] <= one]
    return found


def _answer_table(town, states, calls, reach, rest):
    """Return a dict with the answers of each of the states to each of the calls."""
    table = ways(town)
    return {state: [_answers(table, state, call, reach, rest) for call in calls] for state in states}


def _answers(table, state, call, reach, rest):
    if call in [place for place, left in state]:
        return [tuple(_later(state))]
    found = {}
    for at, (place, left) in enumerate(state):
        if left == 0 and in_reach(table[place][call], reach):
            others = _later(state[:at] + state[at + 1:])
            found[tuple(sorted([*others, (call, rest)]))] = True
    return sorted(found)


def _later(helpers):
    """Return the helpers, ascending like before, with one call less left for those who are busy."""
    return [(place, max(left - 1, 0)) for place, left in helpers]
