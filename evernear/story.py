"""What a house has at each time, the deeds that change it, and the way back and forth between these times."""

from evernear.errors import BadPlace, NoAnswer, NoRoad, NotAnswer, NothingToRedo, NothingToUndo
from evernear.safe import best_of, ranks
from evernear.stands import answers, is_stand
from evernear.towns import is_place, with_road, without_road


class Ground:
    """A town with a rule, a reach, and the ranks of its beaten stands; it never changes."""

    def __init__(self, town, helpers, rule, reach):
        self.plan = town
        self.helpers = helpers
        self.rule = rule
        self.reach = reach
        self.beaten = dict(ranks(town, helpers, rule=rule, reach=reach, calls=list(range(town[0]))))

    def replies(self, stand, place):
        """Return the answers of the stand to a call from the place."""
        if not is_place(self.plan, place):
            raise BadPlace()
        return answers(self.plan, stand, place, rule=self.rule, reach=self.reach)

    def changed(self, town):
        """Return the ground that comes if the town is this one."""
        return Ground(town, self.helpers, self.rule, self.reach)


class Moment:
    """What a house has at one time; it never changes, a deed leads to another one."""

    def __init__(self, ground, standing, answered, gone):
        self.ground = ground
        self.standing = standing
        self.answered = answered
        self.gone = gone
        # The rank of the stand, None if it is safe.
        self.lost_by = ground.beaten.get(standing)

    def moved(self, place, reply):
        """Return the moment behind this answer, with its length, to a call from the place."""
        stand, length = reply
        return Moment(self.ground, stand, (*self.answered, place), self.gone + length)

    def rebuilt(self, town):
        """Return the moment in which the town is this one."""
        return Moment(self.ground.changed(town), self.standing, self.answered, self.gone)


def _call(now, place):
    best = best_of(now.ground.replies(now.standing, place), now.ground.beaten)
    if best is None:
        raise NoAnswer()
    return now.moved(place, best), best


def _answer(now, place, stand):
    lengths = dict(now.ground.replies(now.standing, place))
    # True and 1.0 are equal to 1, so being equal to an answer is not enough.
    if not is_stand(now.ground.plan, stand) or stand not in lengths:
        raise NotAnswer()
    return now.moved(place, (stand, lengths[stand])), lengths[stand]


def _shut(now, first, second):
    plan = now.ground.plan
    if not is_place(plan, first) or not is_place(plan, second):
        raise NoRoad()
    found = [at for at, road in enumerate(plan[1]) if road[:2] in [(first, second), (second, first)]]
    if not found:
        raise NoRoad()
    return _told_safe(now.rebuilt(without_road(plan, found[0])))


def _build(now, road):
    return _told_safe(now.rebuilt(with_road(now.ground.plan, road)))


def _told_safe(moment):
    return moment, moment.lost_by is None


DEEDS = {"call": _call, "answer": _answer, "shut": _shut, "build": _build}


class Story:
    """The moment that is now, those ahead of the deeds in force, those that were undone, and all that was done."""

    def __init__(self, now, past, undone, entries):
        self.now = now
        self.past = past
        self.undone = undone
        self.entries = entries

    def twin(self):
        """Return a story like this one that goes on by itself."""
        return Story(self.now, list(self.past), list(self.undone), list(self.entries))

    def do(self, entry):
        """Do what an entry of a journal tells, and return what is told of it."""
        word, *values = entry
        told = None
        if word == "undo":
            self._go_back()
        elif word == "redo":
            self._go_on()
        else:
            told = self._do_deed(word, values)
        self.entries.append((word, *values))
        return told

    def _go_back(self):
        if not self.past:
            raise NothingToUndo()
        self.undone.append(self.now)
        self.now = self.past.pop()

    def _go_on(self):
        if not self.undone:
            raise NothingToRedo()
        self.past.append(self.now)
        self.now = self.undone.pop()

    def _do_deed(self, word, values):
        deed = DEEDS[word]
        behind, told = deed(self.now, *values)
        self.past.append(self.now)
        self.now = behind
        self.undone = []
        return told
