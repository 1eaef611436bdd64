"""A desk: a yard to which lines are said."""

from woundwalks.errors import Loose, NoLine
from woundwalks.forms import by_blanks, number_from, numbers_from, row_from
from woundwalks.kinds import is_kind
from woundwalks.marks import round_of
from woundwalks.showing import show_row, show_web, show_world
from woundwalks.webs import goal_crossings
from woundwalks.winding import count_wound
from woundwalks.words import LONGEST_ROW, check_place, is_name, is_row
from woundwalks.yard import Yard, check_crossing

KINDS = ("firm", "late", "steady")


def check_line(fits):
    """Refuse a line that is of no form."""
    if not fits:
        raise NoLine()


def formed(thing):
    """What was read, refused where it was of no form: where it is None."""
    check_line(thing is not None)
    return thing


def one_number(words):
    """The number that is the only one of these words."""
    check_line(len(words) == 1)
    return formed(number_from(words[0]))


def some_numbers(words):
    """The tuple of the numbers that these words are, one at least."""
    check_line(len(words) > 0)
    return formed(numbers_from(words))


def spot(words):
    """The crossing and the NAME that these two words are."""
    check_line(len(words) == 2 and is_name(words[1]))
    return (formed(number_from(words[0])), words[1])


def spot_and_arm(words):
    """The crossing, the NAME and the arm that these three words are."""
    return (*spot(words[:2]), one_number(words[2:]))


def told_row(words):
    """The row that these words are the text of."""
    row = formed(row_from(words))
    check_line(is_row(row))
    return row


def counts(deed):
    """How many marks a deed won and lost."""
    won, lost = deed
    return f"{len(won)} {len(lost)}"


def answered(yard, ask):
    """What the yard answers to this ask."""
    try:
        told = yard.answer(ask)
    except Loose as loose:
        return f"loose {show_row(loose.row)}"
    return f"sure {told[1]}" if told[0] == "sure" else f"not {show_world(told[1])}"


def say_put(yard, words):
    """put C N A .."""
    crossing, name = spot(words[:2])
    arms = some_numbers(words[2:])
    return counts(yard.put(crossing, name, arms))


def say_take(yard, words):
    """take C N"""
    crossing, name = spot(words)
    return counts(yard.take(crossing, name))


def say_widen(yard, words):
    """widen C N A"""
    crossing, name, arm = spot_and_arm(words)
    return counts(yard.widen(crossing, name, arm))


def say_strike(yard, words):
    """strike C N A"""
    crossing, name, arm = spot_and_arm(words)
    return counts(yard.strike(crossing, name, arm))


def say_settle(yard, words):
    """settle C N A"""
    crossing, name, arm = spot_and_arm(words)
    return counts(yard.settle(crossing, name, arm))


def say_word(yard, words):
    """word W"""
    return counts(yard.turn_to(told_row(words)))


def say_into(yard, words):
    """into G .. : W"""
    check_line(":" in words)
    at = words.index(":")
    goals = formed(numbers_from(words[:at]))
    row = told_row(words[at + 1:])
    return counts(yard.turn_to(row, goals=goals))


def say_back(yard, words):
    """back"""
    check_line(not words)
    return counts(yard.back())


def say_marks(yard, words):
    """marks"""
    check_line(not words)
    return by_blanks([f"{crossing}.{place}" for crossing, place in yard.marks()])


def say_round(yard, words):
    """round C P"""
    check_line(len(words) == 2)
    crossing, place = some_numbers(words)
    check_crossing(yard.web(), crossing)
    check_place(yard.its_word(), place)
    number = round_of(yard.web(), yard.its_word(), crossing, place, goals=yard.its_goals())
    return "none" if number is None else str(number)


def say_worst(yard, words):
    """worst"""
    check_line(not words)
    return show_world(yard.worst())


def say_row(yard, words):
    """row"""
    check_line(not words)
    return show_row(yard.its_word())


def say_somewhere(yard, words):
    """somewhere"""
    check_line(not words)
    return answered(yard, ("somewhere",))


def say_from(yard, words):
    """from C"""
    return answered(yard, ("from", one_number(words)))


def say_among(yard, words):
    """among C .."""
    return answered(yard, ("among", some_numbers(words)))


def say_reach(yard, words):
    """reach"""
    check_line(not words)
    return answered(yard, ("into", goal_crossings(yard.web(), yard.its_goals())))


def say_kinds(yard, words):
    """kinds"""
    check_line(not words)
    return by_blanks([kind for kind in KINDS if is_kind(yard.its_word(), kind)])


def say_wound(yard, words):
    """wound S"""
    size = one_number(words)
    check_line(size <= LONGEST_ROW)
    return str(count_wound(yard.its_word(), size))


def say_show(yard, words):
    """show"""
    check_line(not words)
    return show_web(yard.web()).replace("\n", "/")


def say_size(yard, words):
    """size"""
    check_line(not words)
    return str(len(yard))


LINES = {
    "put": say_put, "take": say_take, "widen": say_widen, "strike": say_strike, "settle": say_settle,
    "word": say_word, "into": say_into, "back": say_back, "marks": say_marks, "round": say_round,
    "worst": say_worst, "row": say_row, "somewhere": say_somewhere, "from": say_from, "among": say_among,
    "reach": say_reach, "kinds": say_kinds, "wound": say_wound, "show": say_show, "size": say_size,
}


class Desk:
    """It keeps a yard, does what is said to it, and tells it as texts."""

    def __init__(self, n):
        self.yard = Yard(n)
        self.said = []

    def say(self, line):
        """Do what the line says; told is a text."""
        check_line(isinstance(line, str))
        self.said.append(line)
        words = line.split(" ")
        check_line(words[0] in LINES)
        saying = LINES[words[0]]
        return saying(self.yard, words[1:])

    def log(self):
        """The tuple of all texts that were said."""
        return tuple(self.said)
