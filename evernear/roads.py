"""Roads without which a town, or some stand in it, is lost, and new ones that help."""

from itertools import combinations

from evernear.least import can_keep, least_helpers
from evernear.safe import safe_stands
from evernear.towns import with_road, without_road


def lost_stands(town, at, helpers, calls, *, rule, reach):
    """Return the ascending list of the stands that are lost without the road at this position."""
    safe = safe_stands(town, helpers, rule=rule, reach=reach, calls=calls)
    left = safe_stands(without_road(town, at), helpers, rule=rule, reach=reach, calls=calls)
    return [stand for stand in safe if stand not in left]


def needed_roads(town, helpers, calls, *, rule, reach):
    """Return the ascending list of the positions of the roads that are needed."""
    if not can_keep(town, helpers, calls, rule=rule, reach=reach):
        return []
    return [
        at for at in range(len(town[1]))
        if not can_keep(without_road(town, at), helpers, calls, rule=rule, reach=reach)
    ]


def helpers_without(town, calls, *, rule, reach):
    """Return a list with the least helpers of the town without each of its roads, or None."""
    return [least_helpers(without_road(town, at), calls, rule=rule, reach=reach) for at in range(len(town[1]))]


def thinned(town, helpers, calls, *, rule, reach):
    """Return the thinned town, or None if the town cannot be kept."""
    if not can_keep(town, helpers, calls, rule=rule, reach=reach):
        return None
    places, roads = town
    left = (places, list(roads))
    for road in roads:
        shut = without_road(left, left[1].index(road))
        if can_keep(shut, helpers, calls, rule=rule, reach=reach):
            left = shut
    return left


def helping_roads(town, helpers, calls, *, rule, reach, length):
    """Return the ascending list of the tuples (a, b) between which a new road of the length helps."""
    if can_keep(town, helpers, calls, rule=rule, reach=reach):
        return []
    places, roads = town
    taken = {road[:2]: True for road in roads}
    free = [pair for pair in combinations(range(places), 2) if pair not in taken]
    return [
        pair for pair in free
        if can_keep(with_road(town, (*pair, length)), helpers, calls, rule=rule, reach=reach)
    ]
