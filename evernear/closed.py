"""Lists that are closed under every call, and the ranks of what is in none of them.

Both are asked of a table: a dict that has for each stand a list with the answers to each call, which are a list, too.
Instead of stands it can have states."""


def is_closed_table(table):
    """Tell whether each stand of the table has, to each call, an answer that stands in the table, too."""
    for rows in table.values():
        for found in rows:
            if not any(answer in table for answer in found):
                return False
    return True


def beaten_ranks(table):
    """Return a dict with the rank of each stand of the table that is in no closed list."""
    beaten = {}
    rank = 1
    fresh = _lost_by_one_call(table, beaten)
    while fresh:
        for stand in fresh:
            beaten[stand] = rank
        rank = rank + 1
        fresh = _lost_by_one_call(table, beaten)
    return beaten


def _lost_by_one_call(table, beaten):
    """Return the stands not yet beaten that have a call to which all answers are."""
    return [stand for stand in table if stand not in beaten and _is_lost(table[stand], beaten)]


def _is_lost(rows, beaten):
    for found in rows:
        if all(answer in beaten for answer in found):
            return True
    return False
