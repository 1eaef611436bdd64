"""Points 2, 3 (d) and 21: looking at answers."""

import itertools
import random
import unittest

from tests.helper import (
    asked_ones, great_webs, is_plain_paper, look, make_web, odd_things, plain_fails, plain_lacking, rows_of,
    small_webs, some_asks, some_paper, some_world, sparse_webs, spoilt, worlds_of)
from woundwalks.answerlooks import shows_answer
from woundwalks.answers import answer
from woundwalks.errors import Loose
from woundwalks.marks import marks_paper

WEB = (3, ((0, "a", (1, 2)), (1, "b", (2,)), (2, "b", (0, 1))))
WORDS = [*rows_of("ab", 3), *map(tuple, ("ac", "aabb", "abba"))]
WANTED = {"somewhere": "steady", "into": "late", "from": "firm", "among": "firm"}


def plain_shows(web, word, ask, thing):
    """Point 21, to the letter."""
    if type(thing) is not tuple or not thing or type(thing[0]) is not str:
        return False
    if thing[0] == "not" and len(thing) == 2:
        world = thing[1]
        return (type(world) is tuple and all(type(part) is int for part in world) and len(world) == len(web[1])
                and all(arm in arms for arm, (_, _, arms) in zip(world, web[1])) and plain_fails(web, world, word, ask))
    if thing[0] != "sure" or len(thing) != 3 or type(thing[1]) is not int:
        return False
    crossings, goals = asked_ones(web, ask)
    return (plain_lacking(word, WANTED[ask[0]]) is None and thing[1] in crossings
            and is_plain_paper(web, word, goals, thing[2]) and (thing[1], 0) in [row[:2] for row in thing[2]])


class TestShowsAnswer(unittest.TestCase):
    def check(self, web, word, ask, thing):
        before = look(thing)
        told = shows_answer(web, word, ask, thing)
        self.assertIs(told, plain_shows(web, word, ask, thing), (web, word, ask, thing))
        self.assertEqual(look(thing), before)
        return told

    def test_told_ones(self):
        paper = ((1, 2, ("end",)), (2, 2, ("end",)), (0, 2, ("end",)), (1, 1, ("post",)), (2, 1, ("post",)),
                 (0, 0, ("post",)))
        word = ("a", "b")
        for ask in (("somewhere",), ("from", 0), ("among", (0, 1)), ("into", (0, 1, 2))):
            self.assertIs(shows_answer(WEB, word, ask, ("sure", 0, paper)), True)
            for thing in (("sure", 1, paper), ("sure", 0, paper[:-1]), ("sure", 0, ()), ("sure", 0, paper[::-1]),
                          ("sure", False, paper), ("not", (1, 2, 0)), ("sure", 0), ["sure", 0, paper],
                          ("sure", 0, list(paper)), ("sure", 0, paper, 0), ("Sure", 0, paper), ("not", 0, paper)):
                self.assertIs(shows_answer(WEB, word, ask, thing), False)
        for ask in (("from", 1), ("among", (1, 2)), ("among", ()), ("into", (0, 1)), ("into", ())):
            self.assertIs(shows_answer(WEB, word, ask, ("sure", 0, paper)), False)
            self.assertIs(shows_answer(WEB, word, ask, ("not", (1, 2, 0))), True)

    def test_answers_of_its_own(self):
        seen = {}
        for web in small_webs(40):
            for word, ask in itertools.product(WORDS, some_asks(web)):
                try:
                    told = answer(web, word, ask)
                except Loose:
                    continue
                self.assertIs(shows_answer(web, word, ask, told), True)
                seen[ask[0], told[0]] = seen.get((ask[0], told[0]), 0) + 1
        self.assertEqual(len(seen), 8)
        self.assertGreater(min(seen.values()), 30)

    def test_all_worlds_of_small_webs_whatever_the_word(self):
        seen = {}
        for web in small_webs(40):
            for word, ask in itertools.product(WORDS, some_asks(web)):
                loose = plain_lacking(word, WANTED[ask[0]]) is not None
                for world in worlds_of(web)[:9]:
                    told = self.check(web, word, ask, ("not", world))
                    seen[ask[0], loose, told] = seen.get((ask[0], loose, told), 0) + 1
        self.assertEqual(len([key for key in seen if key[2]]), 8)
        self.assertEqual(len([key for key in seen if not key[2]]), 8)

    def test_other_crossings_and_papers(self):
        rng = random.Random(21)
        seen = {}
        for web in small_webs(60):
            for word, ask in itertools.product(WORDS, rng.sample(some_asks(web), min(4, len(some_asks(web))))):
                _, goals = asked_ones(web, ask)
                papers = [marks_paper(web, word, goals=goals), marks_paper(web, word), ()]
                papers.append(some_paper(rng, web, word, goals, rng.randint(0, 5)) if rng.random() < 0.1 else ())
                for paper, crossing in itertools.product(papers, range(-1, web[0] + 1)):
                    told = self.check(web, word, ask, ("sure", crossing, paper))
                    seen[ask[0], told] = seen.get((ask[0], told), 0) + 1
        self.assertEqual(len(seen), 8)
        self.assertGreater(min(seen.values()), 20)

    def test_not_the_least_crossing(self):
        web = make_web(3, {(c, "a"): (0, 1, 2) for c in range(3)})
        paper = marks_paper(web, ("a",))
        for ask in (("somewhere",), ("into", (0, 1, 2)), ("among", (0, 1, 2))):
            self.assertEqual([shows_answer(web, ("a",), ask, ("sure", c, paper)) for c in range(-1, 4)],
                             [False, True, True, True, False])
        self.assertEqual([shows_answer(web, ("a",), ("among", (0, 2)), ("sure", c, paper)) for c in range(3)],
                         [True, False, True])
        self.assertEqual([shows_answer(web, ("a",), ("from", 1), ("sure", c, paper)) for c in range(3)],
                         [False, True, False])
        least = tuple((c, 1, ("end",)) for c in range(3)) + ((2, 0, ("post",)),)
        self.assertIs(shows_answer(web, ("a",), ("somewhere",), ("sure", 2, least)), True)
        self.assertIs(shows_answer(web, ("a",), ("somewhere",), ("sure", 1, least)), False)

    def test_goals_of_the_ask(self):
        web = make_web(2, {(0, "a"): (1,), (1, "a"): (0,)})
        into, everywhere = marks_paper(web, ("a",), goals=(1,)), marks_paper(web, ("a",))
        self.assertIs(shows_answer(web, ("a",), ("into", (1,)), ("sure", 0, into)), True)
        self.assertIs(shows_answer(web, ("a",), ("into", (1,)), ("sure", 0, everywhere)), False)
        self.assertIs(shows_answer(web, ("a",), ("somewhere",), ("sure", 0, into)), True)

    def test_a_word_that_is_not_of_the_kind(self):
        web = make_web(4, {(0, "a"): (1, 2), (1, "a"): (2,), (2, "a"): (3,), (3, "b"): (3,)})
        paper = marks_paper(web, tuple("aab"))
        self.assertIs(shows_answer(web, tuple("aab"), ("somewhere",), ("sure", 0, paper)), True)
        self.assertIs(shows_answer(web, tuple("aab"), ("from", 0), ("sure", 0, paper)), False)
        self.assertIs(shows_answer(web, tuple("aab"), ("from", 0), ("not", (1, 2, 3, 3))), True)
        self.assertIs(shows_answer(web, tuple("aab"), ("from", 0), ("not", (2, 2, 3, 3))), False)

    def test_spoilt_ones(self):
        web = make_web(2, {(0, "a"): (0, 1), (1, "b"): (1,)})
        for word, ask in ((("a",), ("from", 0)), (("a",), ("somewhere",)), (("b",), ("into", (1,))),
                          (("a", "b"), ("from", 0)), ((), ("among", (0, 1))), (("a", "b"), ("into", ()))):
            for thing in spoilt(answer(web, word, ask)):
                self.check(web, word, ask, thing)

    def test_of_anything(self):
        for word, ask in itertools.product(((), ("a", "b"), ("a", "a", "b")), some_asks(WEB)):
            for thing in odd_things():
                self.assertIs(shows_answer(WEB, word, ask, thing), False)
                for other in ((thing,), ("not", thing), ("sure", thing, ()), ("sure", 0, thing), ("sure", 0, (thing,)),
                              (thing, 0, ()), (thing, (1, 2, 0)), ("not", (1, 2, thing)), ("sure", thing), ("not",)):
                    self.assertIs(shows_answer(WEB, word, ask, other), False)

    def test_great_webs(self):
        rng = random.Random(22)
        seen = {}
        for web, word, goals in great_webs()[::2] + sparse_webs():
            some = tuple(sorted(rng.sample(range(40), 6)))
            for ask in (("somewhere",), ("from", some[0]), ("among", some), ("into", goals or some)):
                things = [("sure", crossing, marks_paper(web, word, goals=asked_ones(web, ask)[1]))
                          for crossing in some[:3]] + [("not", some_world(rng, web))]
                if plain_lacking(word, WANTED[ask[0]]) is None:
                    things.append(answer(web, word, ask))
                    self.assertIs(shows_answer(web, word, ask, things[-1]), True)
                for thing in things:
                    told = self.check(web, word, ask, thing)
                    seen[ask[0], thing[0], told] = True
        self.assertGreaterEqual(len(seen), 14)

    def test_by_names(self):
        told = answer(WEB, ("a", "b"), ("from", 0))
        self.assertIs(shows_answer(thing=told, ask=("from", 0), word=("a", "b"), web=WEB), True)


if __name__ == "__main__":
    unittest.main()
