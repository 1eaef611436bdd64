"""Points 2, 10 and 12: webs, arms, goals."""

import itertools
import unittest

from tests.helper import great_webs, look, make_web, odd_things, plain_rising, plain_web, small_webs, spoilt
from woundwalks.webs import arms_of, is_goals, is_web

WEB = (4, ((0, "a", (0, 1)), (0, "b", (3,)), (2, "a", (1, 2, 3)), (3, "abcdef", (0, 3))))


def web_of_size(n, posts, arms):
    """A web of n crossings with so many posts of so many arms each."""
    spots = list(itertools.product(range(n), ("a", "b", "c", "d")))[:posts]
    return make_web(n, {spot: range(arms) for spot in spots})


class TestWebs(unittest.TestCase):
    def test_how_many_crossings(self):
        for n, told in ((0, True), (1, True), (39, True), (40, True), (41, False), (-1, False), (10 ** 399, False)):
            self.assertIs(is_web((n, ())), told, n)
        self.assertIs(is_web((40, ((39, "a", (39,)),))), True)
        self.assertIs(is_web((40, ((40, "a", (39,)),))), False)
        self.assertIs(is_web((40, ((39, "a", (40,)),))), False)
        self.assertIs(is_web((41, ((40, "a", (40,)),))), False)
        self.assertIs(is_web((0, ((0, "a", (0,)),))), False)

    def test_how_many_posts(self):
        for posts, told in ((0, True), (1, True), (119, True), (120, True), (121, False), (160, False)):
            self.assertEqual(len(web_of_size(40, posts, 2)[1]), posts)
            self.assertIs(is_web(web_of_size(40, posts, 2)), told, posts)

    def test_how_many_arms(self):
        for arms, told in ((0, False), (1, True), (7, True), (8, True), (9, False), (40, False)):
            self.assertIs(is_web(web_of_size(40, 1, arms)), told, arms)
            self.assertIs(is_web(web_of_size(40, 120, arms)), told, arms)

    def test_the_greatest_webs(self):
        for web, _, _ in great_webs():
            self.assertIs(is_web(web), True)
            n, posts = web
            for at in (0, 60, len(posts) - 1):
                crossing, name, arms = posts[at]
                for thing in ((crossing, name), (crossing, name, list(arms)), (crossing, name, arms + (40,)),
                              (crossing, name, (True,)), (str(crossing), name, arms), (crossing, "", arms)):
                    self.assertIs(is_web((n, posts[:at] + (thing,) + posts[at + 1:])), False)

    def test_order(self):
        first, second, third = (0, "a", (0,)), (0, "b", (0, 1)), (1, "a", (1,))
        self.assertIs(is_web((2, (first, second, third))), True)
        for posts in itertools.permutations((first, second, third)):
            self.assertIs(is_web((2, posts)), posts == (first, second, third))
        self.assertIs(is_web((2, (first, first))), False)
        self.assertIs(is_web((2, ((0, "a", (0,)), (0, "a", (1,))))), False)
        self.assertIs(is_web((2, ((0, "a", (0,)), (0, "a", (0, 1))))), False)
        self.assertIs(is_web((2, ((0, "a", (1, 0)),))), False)
        self.assertIs(is_web((2, ((0, "a", (0, 0)),))), False)
        self.assertIs(is_web((2, ((0, "ab", (0,)), (0, "b", (0,))))), True)

    def test_truths_are_no_numbers(self):
        for web in ((True, ()), (False, ()), (2, ((True, "a", (0,)),)), (2, ((0, "a", (False, 1)),)),
                    (2, ((0, "a", (0, True)),)), (2, ((0, True, (0,)),))):
            self.assertIs(is_web(web), False)

    def test_spoilt_webs(self):
        for web in (WEB, (0, ()), (1, ()), (2, ((0, "a", (0, 1)), (1, "b", (1,))))):
            self.assertIs(is_web(web), True)
            for thing in spoilt(web):
                before = look(thing)
                self.assertIs(is_web(thing), plain_web(thing))
                self.assertEqual(look(thing), before)

    def test_parts_more_and_fewer(self):
        for thing in ((), (3,), (3, (), ()), [3, ()], (3, []), ((), 3), (3, None), (3, "a"), (3, {}), (3, 0)):
            self.assertIs(is_web(thing), False)

    def test_arms_of(self):
        for web in [WEB] + small_webs(40) + [web for web, _, _ in great_webs()[::5]]:
            arms = {post[:2]: post[2] for post in web[1]}
            for crossing, name in itertools.product(range(web[0]), ("a", "b", "c", "ab", "abcdef")):
                self.assertEqual(arms_of(web, crossing, name), arms.get((crossing, name), ()))
        self.assertEqual(arms_of((0, ()), 0, "a"), ())

    def test_by_names(self):
        self.assertIs(is_web(thing=WEB), True)
        self.assertEqual(arms_of(name="a", crossing=2, web=WEB), (1, 2, 3))
        self.assertIs(is_goals(thing=(0, 3), web=WEB), True)


class TestGoals(unittest.TestCase):
    def test_told_ones(self):
        for thing, told in ((None, True), ((), True), ((0,), True), ((3,), True), ((0, 1, 2, 3), True), ((4,), False),
                            ((-1,), False), ((0, 0), False), ((1, 0), False), ([0], False), (0, False), ("0", False),
                            ((True,), False), ((0, True), False), ((None,), False), (((0,),), False), (False, False)):
            self.assertIs(is_goals(WEB, thing), told, thing)
        self.assertIs(is_goals((0, ()), ()), True)
        self.assertIs(is_goals((0, ()), (0,)), False)
        self.assertIs(is_goals((0, ()), None), True)
        self.assertIs(is_goals((40, ()), tuple(range(40))), True)
        self.assertIs(is_goals((40, ()), tuple(range(41))), False)

    def test_of_anything(self):
        for n in (0, 1, 3, 40):
            for thing in itertools.chain(spoilt((0, 2)), odd_things()):
                before = look(thing)
                self.assertIs(is_goals((n, ()), thing), thing is None or plain_rising(thing, n))
                self.assertEqual(look(thing), before)


if __name__ == "__main__":
    unittest.main()
