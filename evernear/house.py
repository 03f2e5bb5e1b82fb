"""A house: a town whose helpers answer calls while its roads change, with a way back from each deed."""

from evernear.errors import BadEntry, BadStand, NearError
from evernear.stands import is_stand
from evernear.story import Ground, Moment, Story
from evernear.towns import check_town


class House:
    """A town with helpers at their places, the calls that they have answered, and the way that they have gone."""

    def __init__(self, town, stand, *, rule, reach):
        check_town(town)
        if not is_stand(town, stand):
            raise BadStand()
        places, roads = town
        ground = Ground((places, list(roads)), len(stand), rule, reach)
        self._story = Story(Moment(ground, stand, (), 0), [], [], [])

    def call(self, place):
        """Answer a call by the best answer, and return the tuple of it and its length."""
        return self._story.do(("call", place))

    def answer(self, place, stand):
        """Answer a call by the told stand, and return the length of this answer."""
        return self._story.do(("answer", place, stand))

    def shut(self, first, second):
        """Shut the road between two places, and tell whether the house is safe then."""
        return self._story.do(("shut", first, second))

    def build(self, road):
        """Build a road, and tell whether the house is safe then."""
        return self._story.do(("build", road))

    def undo(self):
        """Go back to what the house had before the last deed in force."""
        self._story.do(("undo",))

    def redo(self):
        """Go on to what the house had behind the deed that was undone last."""
        self._story.do(("redo",))

    def do_all(self, deeds):
        """Do all of the deeds, or none of them if one raises an error."""
        self._story = self._behind(deeds)

    def what_if(self, deeds):
        """Return the stand that the house would have if the deeds were done."""
        return self._behind(deeds).now.standing

    def town(self):
        """Return the town."""
        places, roads = self._story.now.ground.plan
        return (places, list(roads))

    def stand(self):
        """Return the stand."""
        return self._story.now.standing

    def calls(self):
        """Return the list of the calls that have been answered."""
        return list(self._story.now.answered)

    def way(self):
        """Return the way that has been gone."""
        return self._story.now.gone

    def rank(self):
        """Return the rank of the house, or None if it is safe."""
        return self._story.now.lost_by

    def journal(self):
        """Return the list of what was done since the making."""
        return list(self._story.entries)

    @property
    def is_safe(self):
        """Whether the house is safe."""
        return self._story.now.lost_by is None

    @property
    def can_undo(self):
        """Whether there is something to undo."""
        return len(self._story.past) > 0

    @property
    def can_redo(self):
        """Whether there is something to redo."""
        return len(self._story.undone) > 0

    def __len__(self):
        return len(self._story.now.answered)

    def _behind(self, deeds):
        """Return the story that comes if all of the deeds are done; the house keeps its own one."""
        story = self._story.twin()
        for entry in deeds:
            story.do(entry)
        return story


def replay(town, stand, journal, *, rule, reach):
    """Return the house to which the journal leads."""
    house = House(town, stand, rule=rule, reach=reach)
    for at, entry in enumerate(journal):
        try:
            house.do_all([entry])
        except NearError:
            raise BadEntry(at)
    return house
