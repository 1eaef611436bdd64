"""Points 2, 13 and 14: wound walks in one world."""

import itertools
import random
import unittest

from tests.helper import (
    great_webs, least_walks, look, odd_things, plain_backs, plain_goals, plain_gone, plain_walk, plain_walks, rows_of,
    small_webs, some_goals, some_world, spoilt, worlds_of)
from woundwalks.walklooks import shows_walk
from woundwalks.walks import row_of, wound_places, wound_walk
from woundwalks.winding import is_wound

ABA = ("a", "b", "a")


def small_cases():
    """Small webs with one of their worlds, words and goals."""
    words = [word for word in rows_of("ab", 3)] + [("a", "c"), ("a", "a", "a", "a"), ("a", "b", "a", "b")]
    rng = random.Random(14)
    for web in small_webs(40):
        for world in rng.sample(worlds_of(web), min(2, len(worlds_of(web)))):
            for word in words:
                if web[0] * len(word) <= 9:
                    for goals in some_goals(web):
                        yield web, world, word, goals


def plain_shows(web, world, word, crossing, thing, place, goals):
    """Point 13, to the letter."""
    if type(thing) is not tuple:
        return False
    for step in thing:
        if type(step) is not tuple or len(step) != 2 or any(type(part) is not int for part in step):
            return False
    places = [step[0] for step in thing]
    if any(at not in range(len(word)) for at in places):
        return False
    if not places:
        return place == len(word) and crossing in plain_goals(web, goals)
    froms = [place] + [at + 1 for at in places[:-1]]
    if any(at != ahead and at not in plain_backs(word, ahead) for at, ahead in zip(places, froms)):
        return False
    way = plain_gone(web, world, crossing, tuple(word[at] for at in places))
    return (places[-1] + 1 == len(word) and way[1:] == tuple(step[1] for step in thing)
            and way[-1] in plain_goals(web, goals))


class TestSmallWebs(unittest.TestCase):
    def test_against_all_walks(self):
        walked = wound = 0
        for web, world, word, goals in small_cases():
            pairs = list(itertools.product(range(web[0]), range(len(word) + 1)))
            told = {(c, i): plain_walk(web, world, word, c, i, goals) for c, i in pairs}
            self.assertEqual(wound_places(web, world, word, goals=goals),
                             tuple(pair for pair in pairs if told[pair] is not None))
            for crossing, place in pairs:
                walk = wound_walk(web, world, word, crossing, place=place, goals=goals)
                self.assertEqual(walk, told[crossing, place], (web, world, word, crossing, place, goals))
                if walk is not None:
                    walked += 1
                    wound += len(walk) > len(word)
                    self.assertIs(shows_walk(web, world, word, crossing, walk, place=place, goals=goals), True)
                    self.assertIs(is_wound(word, row_of(word, walk), place=place), True)
            self.assertEqual(least_walks(web, world, word, goals),
                             {pair: told[pair] for pair in pairs if told[pair] is not None})
        self.assertGreater(walked, 1000)
        self.assertGreater(wound, 50)

    def test_all_walks_of_few_steps_are_taken(self):
        taken = 0
        for web, world, word, goals in itertools.islice(small_cases(), 0, None, 7):
            for crossing, place in itertools.product(range(web[0]), range(len(word) + 1)):
                for walks in plain_walks(web, world, word, crossing, place, goals, 5):
                    for walk in walks:
                        taken += 1
                        self.assertIs(shows_walk(web, world, word, crossing, walk, place=place, goals=goals), True)
        self.assertGreater(taken, 1000)

    def test_all_tuples_of_few_steps(self):
        web = (2, ((0, "a", (0, 1)), (0, "b", (1,)), (1, "a", (0,)), (1, "b", (1,))))
        steps = list(itertools.product(range(-1, 4), range(-1, 3)))
        for world, word in itertools.product(worlds_of(web), (ABA, ("a", "a"), ("b",), ())):
            for thing in itertools.chain.from_iterable(itertools.product(steps, repeat=size) for size in range(3)):
                for crossing, place in itertools.product(range(2), range(len(word) + 1)):
                    self.assertIs(shows_walk(web, world, word, crossing, thing, place=place, goals=(1,)),
                                  plain_shows(web, world, word, crossing, thing, place, (1,)))

    def test_spoilt_walks(self):
        web = (3, ((0, "a", (0, 1)), (1, "b", (2,)), (2, "a", (1, 2))))
        world = (1, 2, 1)
        self.assertEqual(wound_walk(web, world, ABA, 0), ((0, 1), (1, 2), (2, 1)))
        for walk in (((0, 1), (1, 2), (2, 1)), ((0, 1), (1, 2), (2, 1), (1, 2), (2, 1))):
            self.assertIs(shows_walk(web, world, ABA, 0, walk), True)
            for thing in spoilt(walk):
                before = look(thing)
                self.assertIs(shows_walk(web, world, ABA, 0, thing), plain_shows(web, world, ABA, 0, thing, 0, None))
                self.assertEqual(look(thing), before)
        for thing in ([(0, 1), (1, 2), (2, 1)], ((0, True), (1, 2), (2, 1)), ((False, 1), (1, 2), (2, 1)), None,
                      ([0, 1], (1, 2), (2, 1)), ((0, 1), (1, 2)), ((0, 1), (1, 2), (2, 1), (2, 1)), ()):
            self.assertIs(shows_walk(web, world, ABA, 0, thing), False)

    def test_of_anything(self):
        web = (2, ((0, "a", (0, 1)), (1, "b", (1,))))
        for word in ((), ("a",), ABA):
            for place in range(len(word) + 1):
                for thing in odd_things():
                    told = type(thing) is tuple and not thing and place == len(word)
                    self.assertIs(shows_walk(web, (1, 1), word, 0, thing, place=place), told)

    def test_the_walk_of_no_steps(self):
        web = (2, ((0, "a", (1,)), (1, "a", (1,))))
        for word in ((), ("a",), ("a", "a")):
            self.assertEqual(wound_walk(web, (1, 1), word, 0, place=len(word)), ())
            self.assertEqual(wound_walk(web, (1, 1), word, 0, place=len(word), goals=(0,)), ())
            self.assertIs(shows_walk(web, (1, 1), word, 0, (), place=len(word)), True)
            self.assertIs(shows_walk(web, (1, 1), word, 0, (), place=len(word), goals=(1,)), False)
        # Where the crossing is no goal, one may still wind back from len.
        self.assertEqual(wound_walk(web, (1, 1), ("a", "a"), 0, place=2, goals=(1,)), ((1, 1),))
        self.assertIsNone(wound_walk(web, (1, 1), ("a",), 0, place=1, goals=(1,)))
        self.assertIsNone(wound_walk(web, (1, 1), (), 0, goals=(1,)))

    def test_no_crossings(self):
        self.assertEqual(wound_places((0, ()), (), ABA), ())
        self.assertEqual(wound_places((0, ()), (), ()), ())

    def test_somewhat_beyond_the_limits_nothing_is_raised(self):
        web = (2, ((0, "a", (1,)), (1, "b", (0,))))
        for crossing, place in ((2, 0), (-1, 0), (0, 4), (0, -1), (41, 13)):
            self.assertIsNone(wound_walk(web, (1, 0), ABA, crossing, place=place))
            for thing in ((), ((0, 1),), ((-1, 1),), ((4, 1),), ((2, 1),)):
                self.assertIs(shows_walk(web, (1, 0), ABA, crossing, thing, place=place), False)

    def test_row_of(self):
        self.assertEqual(row_of(ABA, ()), ())
        self.assertEqual(row_of(ABA, ((0, 1), (1, 2), (2, 1), (1, 2), (2, 1))), ("a", "b", "a", "b", "a"))
        self.assertEqual(row_of((), ()), ())

    def test_left_out_and_said(self):
        for web, world, word, goals in itertools.islice(small_cases(), 0, None, 11):
            everywhere = tuple(range(web[0]))
            told = wound_places(web, world, word)
            self.assertEqual(wound_places(web, world, word, goals=None), told)
            self.assertEqual(wound_places(goals=everywhere, word=word, world=world, web=web), told)
            for crossing in range(web[0]):
                walk = wound_walk(web, world, word, crossing)
                self.assertEqual(wound_walk(web, world, word, crossing, goals=everywhere, place=0), walk)
                self.assertEqual(wound_walk(place=0, crossing=crossing, word=word, world=world, web=web), walk)
                if walk is not None:
                    self.assertIs(shows_walk(web, world, word, crossing, walk), True)
                    self.assertIs(shows_walk(goals=everywhere, place=0, thing=walk, crossing=crossing, word=word,
                                             world=world, web=web), True)
                    self.assertEqual(row_of(walk=walk, word=word), row_of(word, walk))
        for call, args in ((wound_places, 3), (wound_walk, 4), (shows_walk, 5)):
            with self.assertRaises(TypeError):
                call(*[(0, ()), (), (), 0, ()][:args], None)


class TestGreatWebs(unittest.TestCase):
    def test_against_the_least_walks(self):
        rng = random.Random(13)
        longest = 0
        sizes = set()
        for web, word, goals in great_webs():
            world = some_world(rng, web)
            told = least_walks(web, world, word, goals)
            sizes.add(len(told))
            self.assertEqual(wound_places(web, world, word, goals=goals), tuple(sorted(told)))
            for pair in rng.sample(list(itertools.product(range(40), range(13))), 12):
                walk = wound_walk(web, world, word, pair[0], place=pair[1], goals=goals)
                self.assertEqual(walk, told.get(pair))
                if walk is not None:
                    longest = max(longest, len(walk))
                    self.assertIs(shows_walk(web, world, word, pair[0], walk, place=pair[1], goals=goals), True)
                    self.assertIs(shows_walk(web, world, word, pair[0], walk[:-1] + ((12, 0),), place=pair[1]), False)
        self.assertGreater(longest, 30)
        self.assertGreater(len(sizes), 10)

    def test_walks_of_more_than_400_steps(self):
        web = (40, tuple((c, "a", ((c + 1) % 40,)) for c in range(40)))
        world = tuple((c + 1) % 40 for c in range(40))
        word = ("a",) * 12
        walk = tuple((0 if at == 0 else 1, (at + 1) % 40) for at in range(790))
        walk += tuple((at, (790 + at - 1) % 40) for at in range(2, 12))
        self.assertEqual(len(walk), 800)
        self.assertIs(shows_walk(web, world, word, 0, walk), True)
        self.assertIs(shows_walk(web, world, word, 0, walk, goals=(0,)), True)
        self.assertIs(shows_walk(web, world, word, 0, walk, goals=(1,)), False)
        self.assertIs(shows_walk(web, world, word, 1, walk), False)
        self.assertIs(shows_walk(web, world, word, 0, walk[:-1]), False)


if __name__ == "__main__":
    unittest.main()
