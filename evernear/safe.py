"""Safe stands, from which helpers can answer for ever, and how a caller beats all others."""

from evernear.closed import beaten_ranks, is_closed_table
from evernear.stands import answer_table, answers_by, answers_to_each
from evernear.towns import ways


def safe_stands(town, helpers, *, rule, reach, calls):
    """Return the ascending list of the safe stands."""
    table = answer_table(town, helpers, calls, rule, reach)
    beaten = _beaten(table)
    return [stand for stand in table if stand not in beaten]


def ranks(town, helpers, *, rule, reach, calls):
    """Return the ascending list of the tuples (stand, rank) of all beaten stands."""
    return sorted(_beaten(answer_table(town, helpers, calls, rule, reach)).items())


def is_closed(town, stands, *, rule, reach, calls):
    """Tell whether each stand has an answer in the list to each call."""
    table = ways(town)
    listed = {stand: True for stand in stands}
    return is_closed_table(_without_lengths({
        stand: answers_to_each(table, stand, calls, rule, reach) for stand in listed
    }))


def shows_safe(town, stand, stands, *, rule, reach, calls):
    """Tell whether the list is closed and has the stand."""
    return stand in stands and is_closed(town, stands, rule=rule, reach=reach, calls=calls)


def is_beating(town, rows, *, rule, reach, calls):
    """Tell whether the list of tuples (stand, rank, call) shows that its stands are beaten."""
    listed = {stand: rank for stand, rank, call in rows}
    if len(listed) < len(rows):
        return False
    table = ways(town)
    for stand, rank, call in rows:
        if rank < 1 or call not in calls:
            return False
        if not _all_below(answers_by(table, stand, call, rule, reach), listed, rank):
            return False
    return True


def best_answer(town, stand, call, *, rule, reach, calls):
    """Return the tuple (stand, length) of the best answer to the call, or None."""
    table = answer_table(town, len(stand), calls, rule, reach)
    return best_of(table[stand][call], _beaten(table))


def safe_rule(town, helpers, *, rule, reach, calls):
    """Return the ascending list of the tuples (stand, call, answer) of the safe rule."""
    table = answer_table(town, helpers, calls, rule, reach)
    beaten = _beaten(table)
    safe = [stand for stand in table if stand not in beaten]
    return [(stand, call, best_of(table[stand][call], beaten)[0]) for stand in safe for call in calls]


def calling_rule(town, helpers, *, rule, reach, calls):
    """Return the ascending list of the tuples (stand, rank, call) of the calling rule."""
    table = answer_table(town, helpers, calls, rule, reach)
    beaten = _beaten(table)
    return [(stand, beaten[stand], _beating_call(table, stand, beaten)) for stand in sorted(beaten)]


def gone(town, stand, row, *, rule, reach, calls):
    """Return the stands that come by best answers to the row, up to the first call without an answer."""
    table = answer_table(town, len(stand), calls, rule, reach)
    beaten = _beaten(table)
    stands = [stand]
    for call in row:
        best = best_of(table[stands[-1]][call], beaten)
        if best is None:
            break
        stands.append(best[0])
    return stands


def beating_row(town, stand, *, rule, reach, calls):
    """Return the calls of the calling rule up to the one without an answer, or None for a safe stand."""
    table = answer_table(town, len(stand), calls, rule, reach)
    beaten = _beaten(table)
    if stand not in beaten:
        return None
    row = [_beating_call(table, stand, beaten)]
    best = best_of(table[stand][row[-1]], beaten)
    while best is not None:
        row.append(_beating_call(table, best[0], beaten))
        best = best_of(table[best[0]][row[-1]], beaten)
    return row


def best_of(found, beaten):
    """Return the best one of these answers, which ascend, or None."""
    kept = [reply for reply in found if reply[0] not in beaten]
    if found and not kept:
        highest = max([beaten[answer] for answer, length in found])
        kept = [reply for reply in found if beaten[reply[0]] == highest]
    # Of several that are as short, min takes the first one.
    return min(kept, key=lambda reply: reply[1], default=None)


def _beaten(table):
    """Return a dict with the rank of each beaten stand of a table of answers."""
    return beaten_ranks(_without_lengths(table))


def _without_lengths(table):
    return {
        stand: [[answer for answer, length in found] for found in replies.values()] for stand, replies in table.items()
    }


def _all_below(found, ranked, rank):
    """Tell whether all these answers have ranks, and lesser ones than this."""
    return all(answer in ranked and ranked[answer] < rank for answer, length in found)


def _beating_call(table, stand, beaten):
    """Return the first call to which all answers have lesser ranks than the stand."""
    replies = table[stand]
    lost = [call for call in replies if _all_below(replies[call], beaten, beaten[stand])]
    return lost[0]
