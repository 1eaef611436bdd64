"""Points 2, 3 (g) and 26: askers in webs, their marks and worst worlds."""

import itertools
import random
import unittest

from tests.helper import (
    great_askers, great_webs, look, make_asker, make_web, odd_things, plain_asked_marks, plain_asked_places,
    plain_reads, rows_of, small_askers, small_webs, some_asker, some_goals, some_web, some_world, sparse_webs, spoilt,
    worlds_of)
from woundwalks.askers import asker_of
from woundwalks.asking import asked_marks, asked_places, asked_worst, shows_asked
from woundwalks.marks import marks
from woundwalks.walks import wound_places
from woundwalks.worlds import starts
from woundwalks.worst import shows_worst, worst

WEB = (3, ((0, "a", (1, 2)), (1, "b", (2,)), (2, "b", (0, 1))))
# It may go "a" as often as it likes, then "b".
ROUND = make_asker(3, [(0, "a", 1), (1, "a", 1), (1, "b", 2)], [2], {"a": (1,), "b": (2,)})


def small_cases():
    """Small webs with small askers and goals."""
    rng = random.Random(26)
    askers = small_askers(90)
    for web in small_webs(60):
        for asker in rng.sample(askers, 12):
            for goals in some_goals(web):
                yield web, asker, goals


def great_cases():
    rng = random.Random(40)
    webs = [some_web(rng, 40, names, 120, arms, near) for names in ("abc", "abcdef")
            for arms, near in ((1, 3), (2, 2), (2, 3), (3, 3), (8, 8))]
    webs.append(make_web(40, {(c, name): {min(39, c + step) for step in range(1, 9)}
                              for c in range(40) for name in "abc"}))
    webs.append(make_web(40, {(c, name): {(c + step) % 40 for step in range(8)} for c in range(40) for name in "abc"}))
    for web, asker in itertools.product(webs, great_askers()):
        yield web, asker, rng.choice((None, (), tuple(range(20)), tuple(range(1, 40)), (39,)))


class TestAskedPlaces(unittest.TestCase):
    def test_told_ones(self):
        web = make_web(3, {(0, "a"): (1,), (1, "a"): (0, 2), (2, "b"): (2,)})
        self.assertEqual(asked_places(web, (1, 2, 2), ROUND), (
            (0, 0), (0, 1), (0, 2), (1, 0), (1, 1), (1, 2), (2, 1), (2, 2)))
        self.assertEqual(asked_places(web, (1, 0, 2), ROUND), ((0, 2), (1, 2), (2, 1), (2, 2)))
        self.assertEqual(asked_places(web, (1, 0, 2), ROUND, goals=(0,)), ((0, 2),))
        self.assertEqual(asked_places(web, (1, 0, 2), ROUND, goals=()), ())

    def test_stepping_back_to_a_good_stand(self):
        asker = make_asker(3, [(0, "a", 1), (0, "a", 2)], [1], {"a": (1, 2)})
        self.assertEqual(asked_places((2, ()), (), asker, goals=(1,)), ((1, 1), (1, 2)))
        self.assertEqual(asked_marks((2, ()), asker), ((0, 1), (0, 2), (1, 1), (1, 2)))
        turned = asker[:3] + ((("a", (2, 1)),),)
        self.assertEqual(asked_places((2, ()), (), turned, goals=(1,)), ((1, 1),))

    def test_against_a_search_in_each_world(self):
        sizes = set()
        for web, asker, goals in small_cases():
            for world in worlds_of(web)[:8]:
                told = asked_places(web, world, asker, goals=goals)
                self.assertEqual(told, tuple(sorted(plain_asked_places(web, world, asker, goals))))
                sizes.add(len(told))
        self.assertGreater(len(sizes), 10)

    def test_against_walking_rows(self):
        """Rows that are read and walked are told; in so small a web there is one of few names wherever there is any."""
        found = 0
        for web, asker, goals in itertools.islice(small_cases(), 0, None, 29):
            if web[0] * asker[0] > 6:
                continue
            world = worlds_of(web)[-1]
            told = set()
            for row in rows_of("ab", 6):
                walked = starts(web, world, row, goals=goals)
                told |= {(c, s) for s in range(asker[0]) if walked and plain_reads(asker, row, s, False) for c in walked}
            self.assertEqual(asked_places(web, world, asker, goals=goals), tuple(sorted(told)))
            found += len(told)
        self.assertGreater(found, 30)

    def test_great_ones(self):
        rng = random.Random(27)
        sizes = set()
        for web, asker, goals in itertools.islice(great_cases(), 0, None, 9):
            world = some_world(rng, web)
            told = asked_places(web, world, asker, goals=goals)
            self.assertEqual(told, tuple(sorted(plain_asked_places(web, world, asker, goals))))
            sizes.add(len(told))
        self.assertGreater(len(sizes), 8)


class TestAskedMarks(unittest.TestCase):
    def test_told_ones(self):
        web = make_web(3, {(0, "a"): (1,), (1, "a"): (2,), (2, "b"): (2,)})
        self.assertEqual(asked_marks(web, ROUND), (
            (0, 0), (0, 1), (0, 2), (1, 0), (1, 1), (1, 2), (2, 1), (2, 2)))
        web = make_web(3, {(0, "a"): (1,), (1, "a"): (0, 2), (2, "b"): (2,)})
        self.assertEqual(asked_marks(web, ROUND), ((0, 2), (1, 2), (2, 1), (2, 2)))
        self.assertEqual(asked_marks(web, ROUND, goals=(2,)), ((2, 1), (2, 2)))
        self.assertEqual(asked_marks((0, ()), ROUND), ())

    def test_two_ways_from_one_stand(self):
        """With one of the ways all arms must be marked, not some with this one, some with that one."""
        asker = make_asker(4, [(0, "a", 1), (0, "a", 2), (1, "b", 3)], [3], {"a": (1, 2), "b": (3,)})
        web = make_web(3, {(0, "a"): (1, 2), (1, "b"): (0,), (2, "b"): (0,)})
        self.assertIn((0, 0), asked_marks(web, asker))
        asker = make_asker(5, [(0, "a", 1), (0, "a", 2), (1, "b", 3), (2, "c", 4)], [3, 4],
                           {"a": (1, 2), "b": (3,), "c": (4,)})
        web = make_web(3, {(0, "a"): (1, 2), (1, "b"): (0,), (2, "c"): (0,)})
        # From 2 one may step back to 1, not from 1 to 2: so at 2 "c" must be gone, at 1 either.
        self.assertEqual([mark for mark in asked_marks(web, asker) if mark[0] < 3 and mark[1] < 3], [
            (0, 0), (1, 1), (1, 2), (2, 2)])

    def test_against_all_worlds_and_the_least_set(self):
        sizes = set()
        for web, asker, goals in small_cases():
            told = asked_marks(web, asker, goals=goals)
            self.assertEqual(told, tuple(sorted(plain_asked_marks(web, asker, goals))))
            places = [plain_asked_places(web, world, asker, goals) for world in worlds_of(web)]
            self.assertEqual(set(told), set.intersection(*places), (web, asker, goals))
            sizes.add(len(told))
        self.assertGreater(len(sizes), 10)

    def test_great_ones(self):
        sizes = set()
        for web, asker, goals in itertools.islice(great_cases(), 0, None, 3):
            told = asked_marks(web, asker, goals=goals)
            self.assertEqual(told, tuple(sorted(plain_asked_marks(web, asker, goals))))
            sizes.add(len(told))
        self.assertGreater(len(sizes), 10)

    def test_no_goals(self):
        for web, asker, goals in small_cases():
            if goals == ():
                self.assertEqual(asked_marks(web, asker, goals=goals), ())


class TestWorst(unittest.TestCase):
    def test_the_greatest_in_its_row_tells_the_arm(self):
        # Behind "a" 1 has a mark at the stand 1 alone, which is the higher one, though of the lesser number.
        asker = make_asker(5, [(0, "a", 1), (0, "a", 2), (1, "b", 3), (2, "c", 4)], [3, 4],
                           {"a": (2, 1), "b": (3,), "c": (4,)})
        for arms, world in (((1, 2), (2, 0)), ((0, 1), (0, 0))):
            web = make_web(3, {(0, "a"): arms, (1, "b"): (0,)})
            self.assertEqual(asked_worst(web, asker), world)
            self.assertIs(shows_asked(web, asker, world), True)
            self.assertIs(shows_asked(web, asker, (1, 0)), False)

    def test_small_webs_against_all_worlds(self):
        told = {True: 0, False: 0}
        for web, asker, goals in small_cases():
            marked = plain_asked_marks(web, asker, goals)
            places = {world: plain_asked_places(web, world, asker, goals) for world in worlds_of(web)}
            world = asked_worst(web, asker, goals=goals)
            self.assertIs(type(world), tuple)
            self.assertEqual(places[world], marked, (web, asker, goals))
            for other in places:
                shown = shows_asked(web, asker, other, goals=goals)
                self.assertIs(shown, places[other] == marked)
                told[shown] += 1
        self.assertGreater(min(told.values()), 1000)

    def test_webs_by_chance_with_greater_askers(self):
        rng = random.Random(28)
        webs = [web for web in small_webs(90) if web[0] == 3 and len(web[1]) >= 4]
        for web in webs:
            for _ in range(8):
                asker = some_asker(rng, rng.randint(4, 9), "ab", rng.randint(5, 20))
                goals = rng.choice(some_goals(web))
                world = asked_worst(web, asker, goals=goals)
                self.assertEqual(plain_asked_places(web, world, asker, goals), plain_asked_marks(web, asker, goals))

    def test_great_ones(self):
        rng = random.Random(29)
        shown = {}
        for number, (web, asker, goals) in enumerate(great_cases()):
            world = asked_worst(web, asker, goals=goals)
            self.assertEqual([len(web[1]), len(world)], [120, 120])
            self.assertTrue(all(arm in arms for arm, (_, _, arms) in zip(world, web[1])))
            self.assertIs(shows_asked(web, asker, world, goals=goals), True)
            other = some_world(rng, web)
            told = shows_asked(web, asker, other, goals=goals)
            shown[told] = True
            if number % 23 == 0:
                marked = plain_asked_marks(web, asker, goals)
                self.assertEqual(plain_asked_places(web, world, asker, goals), marked)
                self.assertIs(told, plain_asked_places(web, other, asker, goals) == marked)
        self.assertEqual(len(shown), 2)

    def test_spoilt_ones(self):
        for asker, goals in itertools.product((ROUND, asker_of(("a", "b"))), (None, (2,))):
            for thing in spoilt(asked_worst(WEB, asker, goals=goals)):
                before = look(thing)
                told = (type(thing) is tuple and all(type(part) is int for part in thing) and thing in worlds_of(WEB)
                        and plain_asked_places(WEB, thing, asker, goals) == plain_asked_marks(WEB, asker, goals))
                self.assertIs(shows_asked(WEB, asker, thing, goals=goals), told)
                self.assertEqual(look(thing), before)

    def test_of_anything(self):
        for web, asker, goals in itertools.islice(small_cases(), 0, None, 61):
            for thing in odd_things():
                if type(thing) is not tuple or thing:
                    self.assertIs(shows_asked(web, asker, thing, goals=goals), False)
        for thing in odd_things():
            self.assertIs(shows_asked((2, ()), ROUND, thing), type(thing) is tuple and not thing)
        for thing in ((True, 2, 0), (1, 2, False), [1, 2, 0], (1, 2), (1, 2, 0, 0), (0, 2, 0)):
            self.assertIs(shows_asked(WEB, ROUND, thing), False)


class TestWords(unittest.TestCase):
    def test_beside_wound_places_and_marks(self):
        rng = random.Random(30)
        words = [*rows_of("ab", 3), *map(tuple, ("abab", "aaaa", "abba", "ac"))]
        cases = [(web, word, goals) for web in small_webs(30) for word in words for goals in some_goals(web)]
        for web, word, goals in cases + great_webs()[::3] + sparse_webs():
            asker = asker_of(word)
            world = some_world(rng, web)
            self.assertEqual(asked_marks(web, asker, goals=goals), marks(web, word, goals=goals))
            self.assertEqual(asked_places(web, world, asker, goals=goals), wound_places(web, world, word, goals=goals))
            self.assertIs(shows_asked(web, asker, world, goals=goals), shows_worst(web, word, world, goals=goals))
            self.assertIs(shows_asked(web, asker, worst(web, word, goals=goals), goals=goals), True)
            self.assertIs(shows_worst(web, word, asked_worst(web, asker, goals=goals), goals=goals), True)


class TestArguments(unittest.TestCase):
    def test_left_out_and_said(self):
        for web, asker, _ in itertools.islice(small_cases(), 0, None, 17):
            everywhere = tuple(range(web[0]))
            for call in (asked_marks, asked_worst):
                told = call(web, asker)
                self.assertEqual(call(web, asker, goals=None), told)
                self.assertEqual(call(goals=everywhere, asker=asker, web=web), told)
            for world in worlds_of(web)[:3]:
                told = asked_places(web, world, asker)
                self.assertEqual(asked_places(web, world, asker, goals=None), told)
                self.assertEqual(asked_places(goals=everywhere, asker=asker, world=world, web=web), told)
                shown = shows_asked(web, asker, world)
                self.assertIs(shows_asked(web, asker, world, goals=None), shown)
                self.assertIs(shows_asked(goals=everywhere, thing=world, asker=asker, web=web), shown)
        for call, args in ((asked_places, (WEB, (1, 2, 0), ROUND)), (asked_marks, (WEB, ROUND)),
                           (asked_worst, (WEB, ROUND)), (shows_asked, (WEB, ROUND, ()))):
            with self.assertRaises(TypeError):
                call(*args, None)


if __name__ == "__main__":
    unittest.main()
