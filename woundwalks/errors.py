"""The refusals: what is handed in is kept in them under the names of their values."""


class WalkError(ValueError):
    """Every refusal stands straight under this one."""


class NoPlace(WalkError):
    """What was handed in is no place of the word."""

    def __init__(self, place):
        super().__init__("no place of the word")
        self.place = place


class NoNumber(WalkError):
    """There is none of that number."""

    def __init__(self, number):
        super().__init__("there is none of that number")
        self.number = number


class TooMany(WalkError):
    """There are more than may be."""

    def __init__(self, many):
        super().__init__("there are too many")
        self.many = many


class NotMarked(WalkError):
    """A walker was to begin where no mark is."""

    def __init__(self, crossing, place):
        super().__init__("not marked")
        self.crossing = crossing
        self.place = place


class NotArm(WalkError):
    """What a walker was shown is no arm of the post."""

    def __init__(self, arm):
        super().__init__("no arm of the post")
        self.arm = arm


class Loose(WalkError):
    """The word isn't of the kind that the ask wants."""

    def __init__(self, kind, row):
        super().__init__("the word is not of the wanted kind")
        self.kind = kind
        self.row = row


class Unsettled(WalkError):
    """The asker isn't settled."""

    def __init__(self, row):
        super().__init__("the asker is not settled")
        self.row = row


class Clash(WalkError):
    """Two webs have no arm of this post alike."""

    def __init__(self, crossing, name):
        super().__init__("the webs have no arm of a post alike")
        self.crossing = crossing
        self.name = name


class NoCrossing(WalkError):
    """What was handed in is no crossing."""

    def __init__(self, crossing):
        super().__init__("no crossing")
        self.crossing = crossing


class NoName(WalkError):
    """What was handed in is no NAME."""

    def __init__(self, name):
        super().__init__("no name")
        self.name = name


class NoArms(WalkError):
    """What was handed in can't be the arms of a post."""

    def __init__(self, arms):
        super().__init__("no arms of a post")
        self.arms = arms


class NoArm(WalkError):
    """What was handed in is no arm that fits the deed."""

    def __init__(self, arm):
        super().__init__("no arm that fits")
        self.arm = arm


class NoWord(WalkError):
    """What was handed in is no word."""

    def __init__(self, word):
        super().__init__("no word")
        self.word = word


class NoGoals(WalkError):
    """What was handed in are no goals."""

    def __init__(self, goals):
        super().__init__("no goals")
        self.goals = goals


class NoSize(WalkError):
    """What was handed in is no number of crossings."""

    def __init__(self, n):
        super().__init__("no number of crossings")
        self.n = n


class NoAsk(WalkError):
    """What was handed in is no ask."""

    def __init__(self, ask):
        super().__init__("no ask")
        self.ask = ask


class NoText(WalkError):
    """A row of the text is wrong."""

    def __init__(self, row):
        super().__init__("a row of the text is wrong")
        self.row = row


class Done(WalkError):
    """The walker has ended well already."""


class NoPaper(WalkError):
    """What was handed in is no paper of marks."""


class PostThere(WalkError):
    """Such a post stands already."""


class NoPost(WalkError):
    """No such post stands."""


class LastArm(WalkError):
    """The post's last arm can't be struck."""


class Full(WalkError):
    """No more posts, or no more arms, may be."""


class NoBack(WalkError):
    """There is no deed to be taken back."""


class NoLine(WalkError):
    """What was said is no line of the desk's."""
