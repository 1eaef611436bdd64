"""Walkers: they know the web, and are shown each post's arm only when they get there."""

from woundwalks.askers import asker_of
from woundwalks.errors import Done, NotArm, NotMarked
from woundwalks.spreading import grounds_in, spread_in_web
from woundwalks.webs import posted_arms
from woundwalks.words import is_below, is_place, is_whole


class Walker:
    """It begins at a mark and ends well, whatever arms it is shown."""

    def __init__(self, web, word, crossing, *, place=0, goals=None):
        grounds = grounds_in(spread_in_web(web, asker_of(word), goals))
        # No dict is asked for what is no crossing or no place: a truth would be taken for a number there.
        if not is_below(web[0], crossing) or not is_place(word, place) or (crossing, place) not in grounds:
            raise NotMarked(crossing, place)
        self.word = word
        self.standing = posted_arms(web)
        self.grounds = grounds
        self.steps = []
        self.crossing = crossing
        self.place = self.next_place(crossing, place)

    def next_place(self, crossing, place):
        """The place at which it goes next from this mark: it winds back just where the mark's ground is that."""
        # A ground of winding back leads to a mark by a post, of the same round: so each coming
        # leads to an earlier round.
        ground = self.grounds[(crossing, place)]
        return ground[1] if ground[0] == "back" else place

    def wants(self):
        """The name that it goes next, None where it has ended well."""
        return None if self.place == len(self.word) else self.word[self.place]

    def come(self, arm):
        """Go the name that it wants, the post showing this arm; told is the crossing that it came to."""
        name = self.wants()
        if name is None:
            raise Done()
        if not is_whole(arm) or arm not in self.standing[(self.crossing, name)]:
            raise NotArm(arm)
        self.steps.append((self.place, arm))
        self.crossing = arm
        self.place = self.next_place(arm, self.place + 1)
        return arm

    def walk(self):
        """The tuple of its steps (place, crossing) so far."""
        return tuple(self.steps)
