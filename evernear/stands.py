"""Stands of helpers, the moves between them, and their answers to calls."""

from evernear.towns import in_reach, is_place, ways

MOST_HELPERS = 3
# No way of a town is longer.
NO_REACH = 60


def stands_of(town, helpers):
    """Return the ascending list of all stands of so many helpers."""
    found = [()]
    for _ in range(helpers):
        found = [(*stand, place) for stand in found for place in range(max(stand, default=0), town[0])]
    return found


def move_length(town, first, second, *, reach=60):
    """Return the length of the move between two stands, None if there is no pairing."""
    return moves_from(ways(town), first, reach).get(second)


def answers(town, stand, call, *, rule, reach):
    """Return the ascending list of the tuples (stand, length) of the answers."""
    return answers_by(ways(town), stand, call, rule, reach)


def can_answer(town, stand, call, *, rule, reach):
    """Tell whether the stand has an answer to the call."""
    return len(answers(town, stand, call, rule=rule, reach=reach)) > 0


def is_answered(town, stands, calls, *, rule, reach):
    """Tell whether the stands answer the calls, one behind the other."""
    if len(stands) != len(calls) + 1:
        return False
    return None not in answer_lengths(town, stands, calls, rule, reach)


def is_stand(town, value):
    """Tell whether a value of any kind is a stand of the town."""
    if not isinstance(value, tuple) or not 1 <= len(value) <= MOST_HELPERS:
        return False
    return all(is_place(town, place) for place in value) and sorted(value) == list(value)


def answer_lengths(town, stands, calls, rule, reach):
    """Return the length of the answer to each call, None where a stand is no answer.

    There is one stand more than there are calls."""
    table = ways(town)
    lengths = []
    for at, call in enumerate(calls):
        found = dict(answers_by(table, stands[at], call, rule, reach))
        lengths.append(found.get(stands[at + 1]))
    return lengths


def answers_by(table, stand, call, rule, reach):
    """Return the answers by the table of all ways, so that it need not be made for each call."""
    return answers_to_each(table, stand, [call], rule, reach)[call]


def answers_to_each(table, stand, calls, rule, reach):
    """Return a dict with the answers of the stand to each of the calls."""
    if rule == "one":
        return {call: _answers_of_one(table, stand, call, reach) for call in calls}
    moves = sorted(moves_from(table, stand, reach).items())
    return {call: [move for move in moves if call in move[0]] for call in calls}


def answer_table(town, helpers, calls, rule, reach):
    """Return a dict with the answers of each stand of so many helpers to each of the calls, stands ascending."""
    table = ways(town)
    return {stand: answers_to_each(table, stand, calls, rule, reach) for stand in stands_of(town, helpers)}


def moves_from(table, stand, reach):
    """Return a dict with the length of the move to each stand to which there is one."""
    moves = {(): 0}
    for place in stand:
        moves = _with_one_more(table[place], moves, reach)
    return moves


def _with_one_more(steps, moves, reach):
    """Return the moves with one helper more, who has these ways to all places."""
    near = [(place, step) for place, step in enumerate(steps) if in_reach(step, reach)]
    found = {}
    for stand, length in moves.items():
        for place, step in near:
            other = tuple(sorted((*stand, place)))
            if other not in found or length + step < found[other]:
                found[other] = length + step
    return found


def _answers_of_one(table, stand, call, reach):
    if call in stand:
        return [(stand, 0)]
    near = [place for place in sorted(set(stand)) if in_reach(table[place][call], reach)]
    return sorted([(_with_one_gone(stand, place, call), table[place][call]) for place in near])


def _with_one_gone(stand, place, call):
    at = stand.index(place)
    return tuple(sorted(stand[:at] + (call,) + stand[at + 1:]))
