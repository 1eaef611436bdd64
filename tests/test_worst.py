"""Points 2, 3 (a), (b) and 18: worst worlds."""

import itertools
import random
import unittest

from tests.helper import (
    great_webs, least_walks, look, make_web, odd_things, plain_marks, small_cases, small_webs, some_goals, some_world,
    sparse_webs, spoilt, worlds_of)
from woundwalks.worst import shows_worst, worst

WEB = (3, ((0, "a", (1, 2)), (1, "b", (2,)), (2, "b", (0, 1))))


def plain_places(web, world, word, goals):
    return set(least_walks(web, world, word, goals))


class TestWorst(unittest.TestCase):
    def test_told_ones(self):
        self.assertIn(worst(WEB, ("a", "b"), goals=(2,)), ((2, 2, 0), (2, 2, 1)))
        web = (3, ((0, "a", (1, 2)), (1, "b", (1,))))
        self.assertEqual(worst(web, ("a", "b")), (2, 1))
        self.assertIs(shows_worst(web, ("a", "b"), (2, 1)), True)
        self.assertIs(shows_worst(web, ("a", "b"), (1, 1)), False)
        self.assertEqual(worst((0, ()), ("a",)), ())
        self.assertEqual(worst((2, ()), ()), ())
        self.assertIs(shows_worst((0, ()), ("a",), ()), True)

    def test_the_greatest_place_tells_the_arm(self):
        # Behind "a" 1 has a mark at the place 3 alone, 2 has none: by the place 1 both would do.
        for arms, world in (((1, 2), (2, 1)), ((0, 1), (0, 1))):
            web = make_web(3, {(0, "a"): arms, (1, "c"): (1,)})
            self.assertEqual(worst(web, tuple("abac")), world)
            self.assertIs(shows_worst(web, tuple("abac"), world), True)
            self.assertIs(shows_worst(web, tuple("abac"), (1, 1)), False)

    def test_small_webs_against_all_worlds(self):
        told = {True: 0, False: 0}
        for web, word, goals in small_cases(60):
            marked = plain_marks(web, word, goals)
            places = {world: plain_places(web, world, word, goals) for world in worlds_of(web)}
            world = worst(web, word, goals=goals)
            self.assertIs(type(world), tuple)
            self.assertEqual(places[world], marked, (web, word, goals))
            self.assertEqual(set.intersection(*places.values()), marked)
            # Of each place the number of crossings is least there, for all places together.
            for place in range(len(word) + 1):
                many = {other: sum(at == place for _, at in places[other]) for other in places}
                self.assertEqual(many[world], min(many.values()))
            for other in places:
                shown = shows_worst(web, word, other, goals=goals)
                self.assertIs(shown, places[other] == marked)
                told[shown] += 1
        self.assertGreater(told[True], 1000)
        self.assertGreater(told[False], 1000)

    def test_great_webs(self):
        rng = random.Random(18)
        sizes = set()
        for web, word, goals in great_webs() + sparse_webs():
            marked = plain_marks(web, word, goals)
            sizes.add(len(marked))
            world = worst(web, word, goals=goals)
            self.assertEqual([len(web[1]), len(world)], [120, 120])
            self.assertTrue(all(arm in arms for arm, (_, _, arms) in zip(world, web[1])))
            self.assertEqual(plain_places(web, world, word, goals), marked)
            self.assertIs(shows_worst(web, word, world, goals=goals), True)
            other = some_world(rng, web)
            self.assertIs(shows_worst(web, word, other, goals=goals), plain_places(web, other, word, goals) == marked)
        self.assertGreater(len(sizes), 15)

    def test_webs_by_chance_with_longer_words(self):
        rng = random.Random(19)
        webs = [web for web in small_webs(90) if web[0] == 3 and len(web[1]) >= 4]
        for web in webs:
            for _ in range(6):
                word = tuple(rng.choice("ab") for _ in range(rng.randint(4, 9)))
                goals = rng.choice(some_goals(web))
                world = worst(web, word, goals=goals)
                self.assertEqual(plain_places(web, world, word, goals), plain_marks(web, word, goals))

    def test_spoilt_ones(self):
        for word, goals in itertools.product((("a", "b"), ("a",), ()), (None, (2,))):
            world = worst(WEB, word, goals=goals)
            for thing in spoilt(world):
                before = look(thing)
                told = (type(thing) is tuple and all(type(part) is int for part in thing)
                        and thing in worlds_of(WEB)
                        and plain_places(WEB, thing, word, goals) == plain_marks(WEB, word, goals))
                self.assertIs(shows_worst(WEB, word, thing, goals=goals), told)
                self.assertEqual(look(thing), before)

    def test_of_anything(self):
        for web, word, goals in itertools.islice(small_cases(40), 0, None, 17):
            for thing in odd_things():
                if type(thing) is not tuple or thing:
                    self.assertIs(shows_worst(web, word, thing, goals=goals), False)
        for thing in odd_things():
            self.assertIs(shows_worst((2, ()), (), thing), type(thing) is tuple and not thing)
        web = (2, ((0, "a", (0, 1)), (1, "a", (1,))))
        self.assertIs(shows_worst(web, ("a",), (1, 1)), True)
        for thing in ((True, 1), (1, True), (False, 1), [1, 1], (1,), (1, 1, 1), (1, 0)):
            self.assertIs(shows_worst(web, ("a",), thing), False)

    def test_left_out_and_said(self):
        for web, word, _ in itertools.islice(small_cases(40), 0, None, 7):
            everywhere = tuple(range(web[0]))
            world = worst(web, word)
            self.assertEqual(worst(web, word, goals=None), world)
            self.assertEqual(worst(goals=everywhere, word=word, web=web), world)
            for thing in worlds_of(web)[:4]:
                told = shows_worst(web, word, thing)
                self.assertIs(shows_worst(web, word, thing, goals=None), told)
                self.assertIs(shows_worst(goals=everywhere, thing=thing, word=word, web=web), told)
        with self.assertRaises(TypeError):
            worst(WEB, ("a",), None)
        with self.assertRaises(TypeError):
            shows_worst(WEB, ("a",), (), None)


if __name__ == "__main__":
    unittest.main()
