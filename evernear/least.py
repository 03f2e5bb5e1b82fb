"""The least number of helpers by whom a town can be kept, the least reach, and what bounds them."""

from itertools import combinations

from evernear.lists import ascends
from evernear.safe import safe_stands
from evernear.stands import MOST_HELPERS
from evernear.towns import in_reach, ways


def can_keep(town, helpers, calls, *, rule, reach):
    """Tell whether the town can be kept by so many helpers."""
    return len(safe_stands(town, helpers, rule=rule, reach=reach, calls=calls)) > 0


def least_helpers(town, calls, *, rule, reach):
    """Return the least number of helpers by whom the town can be kept, or None."""
    for helpers in range(1, MOST_HELPERS + 1):
        if can_keep(town, helpers, calls, rule=rule, reach=reach):
            return helpers
    return None


def least_reach(town, helpers, calls, *, rule):
    """Return the least reach with which the town can be kept by so many helpers, or None."""
    reaches = _reaches(town)
    low = 0
    high = len(reaches)
    # What can be kept can be kept with a greater reach, so halving finds the first one.
    while low < high:
        mid = (low + high) // 2
        if can_keep(town, helpers, calls, rule=rule, reach=reaches[mid]):
            high = mid
        else:
            low = mid + 1
    return reaches[low] if low < len(reaches) else None


def reach_steps(town, calls, *, rule):
    """Return the ascending list of the tuples (reach, helpers) of the steps of the reach."""
    least = [least_reach(town, helpers, calls, rule=rule) for helpers in range(1, MOST_HELPERS + 1)]
    starts = [0] + [reach for reach in least if reach is not None]
    return [(reach, _fewest_with(least, reach)) for reach in sorted(set(starts))]


def is_far(town, places, *, rule, reach):
    """Tell whether none of the places is within the reach, or twice the reach, of another one."""
    limit = 2 * reach if rule == "all" else reach
    lengths = _ways_between(ways(town), places)
    return not any(in_reach(length, limit) for length in lengths)


def farthest(town, calls, *, rule, reach):
    """Return the first one of those far lists of called places that have the most places."""
    for many in range(len(calls), 0, -1):
        # The calls ascend, so these come in the order of lists.
        for places in combinations(calls, many):
            if is_far(town, list(places), rule=rule, reach=reach):
                return list(places)
    return []


def are_rooms(town, calls, rooms, *, reach):
    """Tell whether the list of lists of places are rooms of the calls and of the reach."""
    if not all(ascends(room) for room in rooms) or not ascends(rooms) or [] in rooms:
        return False
    if sorted([place for room in rooms for place in room]) != calls:
        return False
    table = ways(town)
    return all(_is_room(table, room, reach) for room in rooms)


def fewest_rooms(town, calls, *, reach):
    """Return the first ones, in the order of lists, of the fewest rooms of the calls and of the reach."""
    table = ways(town)
    found = [[]]
    for call in calls:
        found = [more for rooms in found for more in _with_one_call_more(table, rooms, call, reach)]
    return min(found, key=lambda rooms: (len(rooms), rooms))


def pieces(town):
    """Return the list of the pieces of the town."""
    piece_of = [[to for to, length in enumerate(row) if length is not None] for row in ways(town)]
    return [piece for place, piece in enumerate(piece_of) if piece[0] == place]


def _reaches(town):
    # A reach between two of the ways that occur reaches as far as the lesser one; no way is above 60.
    return sorted({length for row in ways(town) for length in row if length is not None})


def _fewest_with(least, reach):
    for at, start in enumerate(least):
        if in_reach(start, reach):
            return at + 1
    return None


def _ways_between(table, places):
    return [table[first][second] for first, second in combinations(places, 2)]


def _is_room(table, room, reach):
    lengths = _ways_between(table, room)
    return all(in_reach(length, reach) for length in lengths)


def _with_one_call_more(table, rooms, call, reach):
    """Return all rooms that come from these ones by one call more, which is greater than all in them."""
    found = [rooms + [[call]]]
    for at, room in enumerate(rooms):
        if all(in_reach(table[place][call], reach) for place in room):
            found.append(rooms[:at] + [room + [call]] + rooms[at + 1:])
    return found
