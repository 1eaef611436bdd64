"""A yard: a web built by deeds that can be taken back, with a word and goals."""

from woundwalks.answers import answer
from woundwalks.asks import is_ask
from woundwalks.building import with_arms, without_post
from woundwalks.errors import (
    Full, LastArm, NoArm, NoArms, NoAsk, NoBack, NoCrossing, NoGoals, NoName, NoPost, NoSize, NoWord, PostThere)
from woundwalks.marks import marks
from woundwalks.webs import MOST_ARMS, MOST_POSTS, arms_of, is_arms, is_goals, is_size
from woundwalks.words import is_below, is_name, is_whole, is_word
from woundwalks.worst import worst


def check_crossing(web, crossing):
    """Refuse what is no crossing of the web."""
    if not is_below(web[0], crossing):
        raise NoCrossing(crossing)


def check_spot(web, crossing, name):
    """Refuse what is no crossing of the web, then what is no NAME."""
    check_crossing(web, crossing)
    if not is_name(name):
        raise NoName(name)


def check_turn(web, word, goals):
    """Refuse what is no word, then what are no goals of the web."""
    if not is_word(word):
        raise NoWord(word)
    if not is_goals(web, goals):
        raise NoGoals(goals)


def arms_there(web, crossing, name):
    """The arms of the post of this name at this crossing, refused where none stands."""
    check_spot(web, crossing, name)
    arms = arms_of(web, crossing, name)
    if not arms:
        raise NoPost()
    return arms


def check_arm(arms, arm):
    """Refuse what is none of these arms."""
    if not is_whole(arm) or arm not in arms:
        raise NoArm(arm)


def only_among(some, others):
    """Those of some marks that are not among the others."""
    known = {mark: True for mark in others}
    return tuple([mark for mark in some if mark not in known])


class Yard:
    """Each deed tells the marks that it won and lost, and can be taken back."""

    def __init__(self, n, *, word=(), goals=None):
        if not is_size(n):
            raise NoSize(n)
        web = (n, ())
        check_turn(web, word, goals)
        # All that is kept is tuples: so what was once can be kept and come back to as it is.
        self.now = (web, word, goals)
        self.earlier = ()

    def __eq__(self, other):
        return isinstance(other, Yard) and self.now == other.now

    def __len__(self):
        return len(self.earlier)

    def web(self):
        """The web as it stands."""
        return self.now[0]

    def its_word(self):
        """The word."""
        return self.now[1]

    def its_goals(self):
        """The goals, None where they are all crossings."""
        return self.now[2]

    def marks(self):
        """The rising tuple of the marks."""
        return marks(self.web(), self.its_word(), goals=self.its_goals())

    def worst(self):
        """A worst world."""
        return worst(self.web(), self.its_word(), goals=self.its_goals())

    def answer(self, ask):
        """The answer to this ask of the word, whatever the goals."""
        if not is_ask(self.web(), ask):
            raise NoAsk(ask)
        return answer(self.web(), self.its_word(), ask)

    def become(self, now, earlier):
        """Be as told from now on; told are the marks that are won and lost by it."""
        ahead = self.marks()
        self.now = now
        self.earlier = earlier
        behind = self.marks()
        return (only_among(behind, ahead), only_among(ahead, behind))

    def deed(self, web, word, goals):
        """Be so by a deed that can be taken back."""
        return self.become((web, word, goals), self.earlier + (self.now,))

    def built(self, web):
        """Have this web by a deed, with the word and the goals as they are."""
        return self.deed(web, self.its_word(), self.its_goals())

    def put(self, crossing, name, arms):
        """Put up a post."""
        web = self.web()
        check_spot(web, crossing, name)
        if arms_of(web, crossing, name):
            raise PostThere()
        if not is_arms(web[0], arms):
            raise NoArms(arms)
        if len(web[1]) >= MOST_POSTS:
            raise Full()
        return self.built(with_arms(web, crossing, name, arms))

    def take(self, crossing, name):
        """Take down a post."""
        web = self.web()
        arms_there(web, crossing, name)
        return self.built(without_post(web, crossing, name))

    def widen(self, crossing, name, arm):
        """Give a post an arm more."""
        web = self.web()
        arms = arms_there(web, crossing, name)
        if not is_below(web[0], arm) or arm in arms:
            raise NoArm(arm)
        if len(arms) >= MOST_ARMS:
            raise Full()
        return self.built(with_arms(web, crossing, name, tuple(sorted([*arms, arm]))))

    def strike(self, crossing, name, arm):
        """Take an arm from a post."""
        web = self.web()
        arms = arms_there(web, crossing, name)
        check_arm(arms, arm)
        if len(arms) == 1:
            raise LastArm()
        return self.built(with_arms(web, crossing, name, tuple([one for one in arms if one != arm])))

    def settle(self, crossing, name, arm):
        """Leave a post this arm alone."""
        web = self.web()
        check_arm(arms_there(web, crossing, name), arm)
        return self.built(with_arms(web, crossing, name, (arm,)))

    def turn_to(self, word, *, goals=None):
        """Have another word and goals."""
        check_turn(self.web(), word, goals)
        return self.deed(self.web(), word, goals)

    def back(self):
        """Take back the last deed that isn't taken back."""
        if not self.earlier:
            raise NoBack()
        return self.become(self.earlier[-1], self.earlier[:-1])

    def tried(self, look):
        """What this look at the yard tells; whatever it does is undone behind it."""
        now, earlier = self.now, self.earlier
        try:
            return look(self)
        finally:
            self.now, self.earlier = now, earlier

    def copied(self):
        """A yard by itself that is as this one, with all that can be taken back."""
        other = Yard(self.web()[0], word=self.its_word(), goals=self.its_goals())
        other.now = self.now
        other.earlier = self.earlier
        return other
