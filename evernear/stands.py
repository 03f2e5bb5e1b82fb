"""Stands of helpers, the moves between them, and their answers to calls."""

from evernear.towns import in_reach, ways


def stands_of(town, helpers):
    """Return the ascending list of all stands of so many helpers."""
    return _all_stands(town[0], helpers)


def move_length(town, first, second, *, reach=60):
    """Return the length of the move between two stands, None if there is no pairing."""
    return _pairing_length(ways(town), first, second, reach)


def answers(town, stand, call, *, rule, reach):
    """Return the ascending list of the tuples (stand, length) of the answers."""
    return answers_by(ways(town), stand, call, rule, reach)


def can_answer(town, stand, call, *, rule, reach):
    """Tell whether the stand has an answer to the call."""
    return len(answers(town, stand, call, rule=rule, reach=reach)) > 0


def is_answered(town, stands, calls, *, rule, reach):
    """Tell whether the stands answer the calls, one behind the other."""
    if len(stands) != len(calls) + 1:
        return False
    return None not in answer_lengths(town, stands, calls, rule, reach)


def answer_lengths(town, stands, calls, rule, reach):
    """Return the length of the answer to each call, None where a stand is no answer.

    There is one stand more than there are calls."""
    table = ways(town)
    lengths = []
    for at, call in enumerate(calls):
        found = dict(answers_by(table, stands[at], call, rule, reach))
        lengths.append(found.get(stands[at + 1]))
    return lengths


def answers_by(table, stand, call, rule, reach):
    """Return the answers by the table of all ways, so that it need not be made for each call."""
    if rule == "one":
        return _answers_of_one(table, stand, call, reach)
    return _answers_of_all(table, stand, call, reach)


def _answers_of_one(table, stand, call, reach):
    if call in stand:
        return [(stand, 0)]
    near = [place for place in sorted(set(stand)) if in_reach(table[place][call], reach)]
    return sorted([(_with_one_gone(stand, place, call), table[place][call]) for place in near])


def _with_one_gone(stand, place, call):
    at = stand.index(place)
    return tuple(sorted(stand[:at] + (call,) + stand[at + 1:]))


def _answers_of_all(table, stand, call, reach):
    found = []
    for other in _all_stands(len(table), len(stand)):
        length = _pairing_length(table, stand, other, reach) if call in other else None
        if length is not None:
            found.append((other, length))
    return found


def _all_stands(places, helpers):
    found = [()]
    for _ in range(helpers):
        found = [(*stand, place) for stand in found for place in range(max(stand, default=0), places)]
    return found


def _pairing_length(table, first, second, reach):
    if not first:
        return 0
    best = None
    for at, place in enumerate(second):
        length = table[first[0]][place]
        if not in_reach(length, reach):
            continue
        rest = _pairing_length(table, first[1:], second[:at] + second[at + 1:], reach)
        if rest is not None and (best is None or length + rest < best):
            best = length + rest
    return best
