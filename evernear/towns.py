"""Towns: their check, the ways between their places, and roads left out or put in."""

from evernear.errors import BadRoad, BadSize

MOST_PLACES = 7
MOST_LENGTH = 9


def is_whole(value):
    """Tell whether a value is a whole number; True and False are none."""
    return isinstance(value, int) and not isinstance(value, bool)


def is_place(town, value):
    """Tell whether a value of any kind is a place of the town."""
    return is_whole(value) and 0 <= value < town[0]


def in_reach(length, reach):
    """Tell whether a way, None if there is none, is at most the reach."""
    return length is not None and length <= reach


def check_town(town):
    """Raise the first error that is due for the town."""
    places, roads = town
    if not is_whole(places) or not 1 <= places <= MOST_PLACES:
        raise BadSize()
    ahead = (-1, -1)
    for at, road in enumerate(roads):
        # The two places alone tell both whether roads ascend and whether they repeat.
        if not _is_road(places, road) or road[:2] <= ahead:
            raise BadRoad(at)
        ahead = road[:2]


def ways(town):
    """Return a list with a list for each place: the ways from it to all places."""
    places = town[0]
    table = _single_roads(town)
    for mid in range(places):
        table = [[_shorter(row[to], row[mid], table[mid][to]) for to in range(places)] for row in table]
    return table


def way(town, first, second):
    """Return the way between two places, None if no roads lead there."""
    return ways(town)[first][second]


def is_one_piece(town):
    """Tell whether there is a way between any two places."""
    # Roads go both ways, so what place 0 can come to can come to each other over it.
    return None not in ways(town)[0]


def within(town, place, *, reach):
    """Return the ascending list of the places within the reach of the place."""
    return [other for other, length in enumerate(ways(town)[place]) if in_reach(length, reach)]


def without_road(town, at):
    """Return the town without the road at this position."""
    places, roads = town
    return (places, roads[:at] + roads[at + 1:])


def with_road(town, road):
    """Return the town with one road more, in its order."""
    places, roads = town
    at = _position(roads, road)
    if not _is_road(places, road) or road[:2] in [other[:2] for other in roads]:
        raise BadRoad(at)
    return (places, roads[:at] + [road] + roads[at:])


def matters(town, at):
    """Tell whether the road at this position matters for the way between its places."""
    first, second, _ = town[1][at]
    before = way(town, first, second)
    after = way(without_road(town, at), first, second)
    return after is None or after > before


def _all_whole(road):
    return all(is_whole(value) for value in road)


def _is_road(places, road):
    if not _all_whole(road):
        return False
    first, second, length = road
    return 0 <= first < second < places and 1 <= length <= MOST_LENGTH


def _position(roads, road):
    # What is no whole number may not compare with one, so such a road has no place among the others.
    if not _all_whole(road):
        return len(roads)
    return len([other for other in roads if other[:2] < road[:2]])


def _single_roads(town):
    places, roads = town
    lengths = {(first, second): length for first, second, length in roads}
    return [
        [0 if here == there else lengths.get((min(here, there), max(here, there))) for there in range(places)]
        for here in range(places)
    ]


def _shorter(straight, ahead, behind):
    if ahead is None or behind is None:
        return straight
    if straight is None:
        return ahead + behind
    return min(straight, ahead + behind)
