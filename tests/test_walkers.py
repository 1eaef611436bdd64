"""Points 2, 3 (c) and 19: walkers."""

import copy
import itertools
import random
import unittest

from tests.helper import (
    great_webs, look, make_web, no_numbers, odd_things, plain_backs, plain_goals, plain_rounds, small_cases,
    some_world, sparse_webs)
from woundwalks.errors import Done, NotArm, NotMarked
from woundwalks.walkers import Walker
from woundwalks.walklooks import shows_walk


def round_numbers(web, word, goals):
    return {mark: number for number, fresh in enumerate(plain_rounds(web, word, goals)) for mark in fresh}


def state(walker):
    return walker.crossing, walker.place, walker.wants(), walker.walk(), look(sorted(vars(walker).items()))


class Followed:
    """A walker, and what must be so of it at each step."""

    def __init__(self, test, web, word, crossing, place, goals):
        self.test, self.web, self.word, self.goals = test, web, word, goals
        self.arms = {post[:2]: post[2] for post in web[1]}
        self.walker = Walker(web, word, crossing, place=place, goals=goals)
        self.came = crossing, place
        self.steps = ()
        self.look()

    def apart(self):
        other = copy.copy(self)
        other.walker = copy.deepcopy(self.walker)
        return other

    def look(self):
        test, walker, (crossing, came) = self.test, self.walker, self.came
        test.assertEqual((type(walker.crossing), walker.crossing), (int, crossing))
        test.assertIs(type(walker.place), int)
        test.assertIn(walker.place, [came] + plain_backs(self.word, came))
        test.assertEqual((type(walker.walk()), walker.walk()), (tuple, self.steps))
        if self.ended():
            test.assertIsNone(walker.wants())
            test.assertIn(crossing, plain_goals(self.web, self.goals))
        else:
            test.assertEqual(walker.wants(), self.word[walker.place])
            test.assertIn((crossing, walker.wants()), self.arms)

    def ended(self):
        return self.walker.place == len(self.word)

    def choices(self):
        return self.arms[self.walker.crossing, self.walker.wants()]

    def come(self, arm):
        place = self.walker.place
        told = self.walker.come(arm)
        self.test.assertEqual((type(told), told), (int, arm))
        self.came = arm, place + 1
        self.steps += ((place, arm),)
        self.look()


class TestWalker(unittest.TestCase):
    def test_a_told_one(self):
        web = (3, ((0, "a", (1, 2)), (1, "b", (2,)), (2, "b", (0, 1))))
        walker = Walker(web, ("a", "b"), 0)
        self.assertEqual((walker.crossing, walker.place, walker.wants(), walker.walk()), (0, 0, "a", ()))
        self.assertEqual(walker.come(2), 2)
        self.assertEqual((walker.crossing, walker.place, walker.wants(), walker.walk()), (2, 1, "b", ((0, 2),)))
        self.assertEqual(walker.come(1), 1)
        self.assertEqual((walker.crossing, walker.place, walker.wants()), (1, 2, None))
        self.assertEqual(walker.walk(), ((0, 2), (1, 1)))

    def test_winding_back(self):
        web = (4, ((0, "a", (1,)), (1, "a", (2,)), (2, "a", (3,)), (3, "b", (3,))))
        walker = Walker(web, ("a", "a", "b"), 0, goals=(3,))
        told = [(walker.crossing, walker.place)]
        for arm in (1, 2, 3, 3):
            walker.come(arm)
            told.append((walker.crossing, walker.place))
        self.assertEqual(told, [(0, 0), (1, 1), (2, 1), (3, 2), (3, 3)])
        self.assertEqual(walker.walk(), ((0, 1), (1, 2), (1, 3), (2, 3)))
        # It winds back at the beginning already, and from len, too.
        self.assertEqual(Walker(web, ("a", "a", "b"), 1, place=2, goals=(3,)).place, 1)
        web = (2, ((0, "a", (1,)),))
        walker = Walker(web, ("a", "a"), 0, place=2, goals=(1,))
        self.assertEqual((walker.crossing, walker.place, walker.wants()), (0, 1, "a"))
        self.assertEqual((walker.come(1), walker.place), (1, 2))

    def test_it_has_ended_where_it_begins(self):
        for word in ((), ("a",), ("a", "a")):
            walker = Walker((2, ((0, "a", (0, 1)),)), word, 1, place=len(word), goals=(1,))
            self.assertEqual((walker.crossing, walker.place, walker.wants(), walker.walk()), (1, len(word), None, ()))
            for thing in odd_things() + [0, 1]:
                self.assertRaises(Done, walker.come, thing)
            self.assertEqual(walker.walk(), ())

    def test_whatever_arms_are_shown_in_small_webs(self):
        rng = random.Random(18)
        early = last = 0
        for web, word, goals in small_cases(60):
            for (crossing, place), number in round_numbers(web, word, goals).items():
                going = [Followed(self, web, word, crossing, place, goals)]
                for _ in range(number):
                    further = []
                    for one in going:
                        early += one.ended()
                        for arm in () if one.ended() else one.choices():
                            other = one.apart()
                            other.come(arm)
                            further.append(other)
                    going = rng.sample(further, min(40, len(further)))
                self.assertTrue(all(one.ended() for one in going), (web, word, crossing, place, goals))
                last += len(going)
        self.assertGreater(early, 300)
        self.assertGreater(last, 3000)

    def test_one_post_shows_now_this_arm_now_that_one(self):
        web = make_web(3, {(0, "a"): (1, 2), (1, "b"): (0,), (2, "b"): (0,), (0, "b"): (0,)})
        word = tuple("abab")
        one = Followed(self, web, word, 0, 0, None)
        for arm in (1, 0, 2, 0):
            one.come(arm)
        self.assertTrue(one.ended())
        self.assertEqual(one.walker.walk(), ((0, 1), (1, 0), (2, 2), (3, 0)))

    def test_in_each_world_it_goes_a_wound_walk(self):
        rng = random.Random(19)
        many = 0
        for web, word, goals in itertools.chain(itertools.islice(small_cases(60), 0, None, 3), great_webs()):
            told = round_numbers(web, word, goals)
            for crossing, place in rng.sample(sorted(told), min(5, len(told))):
                world = some_world(rng, web)
                right = {post[:2]: arm for post, arm in zip(web[1], world)}
                one = Followed(self, web, word, crossing, place, goals)
                while not one.ended():
                    one.come(right[one.walker.crossing, one.walker.wants()])
                walk = one.walker.walk()
                self.assertLessEqual(len(walk), told[crossing, place])
                self.assertIs(shows_walk(web, world, word, crossing, walk, place=place, goals=goals), True)
                many += 1
        self.assertGreater(many, 500)

    def test_great_webs(self):
        rng = random.Random(20)
        longest = 0
        for web, word, goals in great_webs() + sparse_webs():
            told = round_numbers(web, word, goals)
            last = [mark for mark in told if told[mark] == max(told.values())]
            for crossing, place in rng.sample(sorted(told), min(4, len(told))) + last[:2]:
                for worst_arms in (False, True):
                    one = Followed(self, web, word, crossing, place, goals)
                    while not one.ended():
                        at = one.walker.place + 1
                        arms = one.choices()
                        one.come(max(arms, key=lambda arm: told[arm, at]) if worst_arms else rng.choice(arms))
                        # Each coming leads to an earlier round.
                        self.assertLessEqual(len(one.steps) + told[one.walker.crossing, at], told[crossing, place])
                    longest = max(longest, len(one.steps))
        self.assertGreater(longest, 40)

    def test_two_walkers_are_apart(self):
        web = (3, ((0, "a", (1, 2)), (1, "b", (2,)), (2, "b", (0, 1))))
        one, other = Walker(web, ("a", "b"), 0), Walker(web, ("a", "b"), 0)
        before = state(other)
        one.come(1)
        self.assertEqual(state(other), before)
        other.come(2)
        self.assertEqual((one.crossing, other.crossing), (1, 2))
        one.come(2)
        self.assertEqual((one.walk(), other.walk()), (((0, 1), (1, 2)), ((0, 2),)))

    def test_told_walks_stay_as_they_were(self):
        web = (2, ((0, "a", (0, 1)), (1, "a", (0, 1))))
        walker = Walker(web, ("a", "a"), 0)
        first = walker.walk()
        walker.come(1)
        second = walker.walk()
        walker.come(0)
        self.assertEqual((first, second, walker.walk()), ((), ((0, 1),), ((0, 1), (1, 0))))


class TestRefused(unittest.TestCase):
    def check_not_marked(self, web, word, crossing, place, goals):
        with self.assertRaises(NotMarked) as caught:
            Walker(web, word, crossing, place=place, goals=goals)
        self.assertIs(type(caught.exception), NotMarked)
        for held, told in ((caught.exception.crossing, crossing), (caught.exception.place, place)):
            self.assertTrue(held is told or (type(held), held) == (type(told), told))

    def test_not_marked(self):
        refused = 0
        for web, word, goals in itertools.chain(small_cases(40), great_webs()):
            told = round_numbers(web, word, goals)
            places = itertools.product(range(-1, web[0] + 1), range(-1, len(word) + 2))
            bare = [mark for mark in places if mark not in told]
            for crossing, place in bare[:: 1 + len(bare) // 20]:
                self.check_not_marked(web, word, crossing, place, goals)
                refused += 1
            if (0, 0) not in told:
                with self.assertRaises(NotMarked) as caught:
                    Walker(web, word, 0, goals=goals)
                self.assertEqual(vars(caught.exception), {"crossing": 0, "place": 0})
        self.assertGreater(refused, 1000)

    def test_not_marked_of_what_is_no_place_at_all(self):
        web = (2, ((0, "a", (0, 1)), (1, "a", (0, 1))))
        for thing in no_numbers(2):
            self.check_not_marked(web, ("a",), thing, 0, None)
            self.check_not_marked(web, ("a",), 0, thing, None)
        self.check_not_marked((0, ()), (), 0, 0, None)

    def test_not_arm_changes_nothing(self):
        web = (4, ((0, "a", (1, 2)), (1, "b", (2,)), (2, "b", (0, 1))))
        walker = Walker(web, ("a", "b"), 0)
        for arms, arm in (((1, 2), 1), ((2,), 2)):
            before = state(walker)
            for thing in no_numbers(4) + [other for other in range(4) if other not in arms]:
                with self.assertRaises(NotArm) as caught:
                    walker.come(thing)
                held = caught.exception.arm
                self.assertTrue(held is thing or (type(held), held) == (type(thing), thing))
                self.assertEqual(state(walker), before)
            walker.come(arm)
        before = state(walker)
        for thing in odd_things() + [0, 1, 2, 3, 4]:
            with self.assertRaises(Done) as caught:
                walker.come(thing)
            self.assertEqual(vars(caught.exception), {})
            self.assertEqual(state(walker), before)

    def test_refused_in_great_webs(self):
        rng = random.Random(21)
        for web, word, goals in great_webs()[::3]:
            told = round_numbers(web, word, goals)
            for crossing, place in rng.sample(sorted(told), min(3, len(told))):
                one = Followed(self, web, word, crossing, place, goals)
                while not one.ended():
                    before = state(one.walker)
                    for arm in range(-1, 41):
                        if arm not in one.choices():
                            self.assertRaises(NotArm, one.walker.come, arm)
                    self.assertEqual(state(one.walker), before)
                    one.come(rng.choice(one.choices()))
                self.assertRaises(Done, one.walker.come, 0)
                self.assertRaises(Done, one.walker.come, None)


class TestArguments(unittest.TestCase):
    def test_left_out_and_said(self):
        for web, word, _ in itertools.islice(small_cases(40), 0, None, 5):
            everywhere = tuple(range(web[0]))
            for crossing, place in round_numbers(web, word, None):
                told = state(Walker(web, word, crossing, place=place))
                self.assertEqual(state(Walker(web, word, crossing, place=place, goals=None)), told)
                self.assertEqual(
                    state(Walker(goals=everywhere, place=place, crossing=crossing, word=word, web=web)), told)
                if place == 0:
                    self.assertEqual(state(Walker(web, word, crossing)), told)
        with self.assertRaises(TypeError):
            Walker((1, ()), (), 0, 0)
        walker = Walker((1, ((0, "a", (0,)),)), ("a",), 0)
        self.assertEqual(walker.come(arm=0), 0)


if __name__ == "__main__":
    unittest.main()
