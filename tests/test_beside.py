"""Points 2, 3 (h) and 28: webs beside one another."""

import itertools
import random
import unittest

from tests.helper import (
    SHORT_WORDS, great_webs, look, make_web, plain_marks, plain_web, small_webs, some_goals, some_web, worlds_of)
from woundwalks.beside import common, knows_more, narrowed
from woundwalks.errors import Clash, TooMany
from woundwalks.marks import marks

WEB = (3, ((0, "a", (1, 2)), (1, "b", (2,)), (2, "b", (0, 1))))


def arms_in(web):
    return {post[:2]: set(post[2]) for post in web[1]}


def plain_knows_more(one, other):
    mine, theirs = arms_in(one), arms_in(other)
    return all(spot in mine and mine[spot] <= theirs[spot] for spot in theirs)


def plain_narrowed(one, other):
    """The web, or the class and the values of what is due first."""
    mine, theirs = arms_in(one), arms_in(other)
    posts = {}
    for spot in sorted({*mine, *theirs}):
        posts[spot] = mine.get(spot, theirs.get(spot)) & theirs.get(spot, mine.get(spot))
        if not posts[spot]:
            return Clash, {"crossing": spot[0], "name": spot[1]}
    return (TooMany, {"many": len(posts)}) if len(posts) > 120 else make_web(one[0], posts)


def plain_common(one, other):
    mine, theirs = arms_in(one), arms_in(other)
    posts = {spot: mine[spot] | theirs[spot] for spot in sorted(mine) if spot in theirs}
    for arms in posts.values():
        if len(arms) > 8:
            return TooMany, {"many": len(arms)}
    return make_web(one[0], posts)


def thinner(rng, web):
    """A web that knows more: fewer arms, more posts."""
    posts = {post[:2]: rng.sample(post[2], rng.randint(1, len(post[2]))) for post in web[1]}
    for _ in range(rng.randint(0, 2)):
        if web[0] and len(posts) < 120:
            spot = rng.randrange(web[0]), rng.choice("abc")
            posts.setdefault(spot, rng.sample(range(web[0]), rng.randint(1, min(8, web[0]))))
    return make_web(web[0], posts)


def web_pairs():
    """Webs of as many crossings, two and two; some of them know more than the other one."""
    rng = random.Random(28)
    webs = small_webs(70)
    for one, other in itertools.product(webs, repeat=2):
        if one[0] == other[0]:
            yield one, other
    for web in webs:
        yield thinner(rng, web), web
        yield thinner(rng, web), thinner(rng, web)


def great_pairs():
    rng = random.Random(29)
    told = []
    for names, posts, arms, near in itertools.product(("abc", "abcdef"), (40, 60, 120), (1, 3, 8), (4, None)):
        one = some_web(rng, 40, names, posts, min(arms, near or arms), near)
        told += [(one, some_web(rng, 40, names, posts, min(arms, near or arms), near)), (thinner(rng, one), one)]
    for posts in (60, 61, 120):
        told.append((some_web(rng, 40, "abc", 60, 8), some_web(rng, 40, "def", posts, 8)))
    return told


class TestBeside(unittest.TestCase):
    def check(self, call, plain, one, other):
        """What is told, or the class of what is refused."""
        before = look((one, other))
        told = plain(one, other)
        if type(told[0]) is type:
            with self.assertRaises(told[0]) as caught:
                call(one, other)
            self.assertIs(type(caught.exception), told[0])
            self.assertEqual(vars(caught.exception), told[1])
            self.assertTrue(all(type(vars(caught.exception)[key]) is type(told[1][key]) for key in told[1]))
            told = told[0]
        else:
            self.assertEqual(look(call(one, other)), look(told))
            self.assertTrue(plain_web(told))
        self.assertEqual(look((one, other)), before)
        return told


class TestKnowsMore(TestBeside):
    def test_told_ones(self):
        self.assertIs(knows_more(WEB, WEB), True)
        fewer_arms = make_web(3, {(0, "a"): (1,), (1, "b"): (2,), (2, "b"): (1,)})
        self.assertIs(knows_more(fewer_arms, WEB), True)
        self.assertIs(knows_more(WEB, fewer_arms), False)
        more_posts = make_web(3, {(0, "a"): (1, 2), (1, "b"): (2,), (2, "b"): (0, 1), (2, "c"): (0, 1, 2)})
        self.assertIs(knows_more(more_posts, WEB), True)
        self.assertIs(knows_more(WEB, more_posts), False)
        other_arms = make_web(3, {(0, "a"): (0, 1), (1, "b"): (2,), (2, "b"): (0, 1)})
        self.assertIs(knows_more(other_arms, WEB), False)
        self.assertIs(knows_more(WEB, other_arms), False)
        self.assertIs(knows_more(make_web(3, {(0, "a"): (1,)}), make_web(3, {(0, "b"): (1,)})), False)
        self.assertIs(knows_more(make_web(3, {(1, "a"): (1,)}), make_web(3, {(0, "a"): (1,)})), False)

    def test_webs_of_none(self):
        self.assertIs(knows_more((0, ()), (0, ())), True)
        self.assertIs(knows_more((3, ()), (3, ())), True)
        self.assertIs(knows_more(WEB, (3, ())), True)
        self.assertIs(knows_more((3, ()), WEB), False)

    def test_small_and_great_webs(self):
        told = {True: 0, False: 0}
        for one, other in itertools.chain(web_pairs(), great_pairs()):
            more = knows_more(one, other)
            self.assertIs(more, plain_knows_more(one, other), (one, other))
            told[more] += 1
        self.assertGreater(min(told.values()), 100)

    def test_who_knows_more_loses_no_mark(self):
        won = 0
        for one, other in web_pairs():
            if knows_more(one, other):
                for word, goals in itertools.product(SHORT_WORDS[::2], some_goals(one)):
                    here, there = plain_marks(one, word, goals), plain_marks(other, word, goals)
                    self.assertEqual((set(marks(one, word, goals=goals)), set(marks(other, word, goals=goals))),
                                     (here, there))
                    self.assertLessEqual(there, here)
                    won += there != here
        self.assertGreater(won, 200)

    def test_who_knows_more_loses_no_mark_in_great_webs(self):
        rng = random.Random(30)
        won = 0
        for web, word, goals in great_webs():
            one = thinner(rng, web)
            self.assertIs(knows_more(one, web), True)
            here, there = marks(one, word, goals=goals), marks(web, word, goals=goals)
            self.assertLessEqual(set(there), set(here))
            won += len(here) > len(there)
        self.assertGreater(won, 5)


class TestNarrowed(TestBeside):
    def test_told_ones(self):
        other = make_web(3, {(0, "a"): (0, 2), (0, "c"): (0,), (2, "b"): (0, 1, 2)})
        told = make_web(3, {(0, "a"): (2,), (0, "c"): (0,), (1, "b"): (2,), (2, "b"): (0, 1)})
        self.assertEqual(narrowed(WEB, other), told)
        self.assertEqual(narrowed(other, WEB), told)
        self.assertEqual(narrowed(other=other, one=WEB), told)
        self.assertEqual(narrowed(WEB, (3, ())), WEB)
        self.assertEqual(narrowed((3, ()), WEB), WEB)
        self.assertEqual(narrowed((0, ()), (0, ())), (0, ()))

    def test_clash_of_the_least_post(self):
        spots = [(0, "b"), (1, "a"), (1, "ab"), (1, "b"), (2, "a")]
        for clashing in itertools.chain.from_iterable(itertools.combinations(spots, size) for size in (1, 2, 3)):
            one = make_web(3, {spot: (0, 1) for spot in spots})
            other = make_web(3, {spot: (2,) if spot in clashing else (1, 2) for spot in spots})
            for pair in ((one, other), (other, one)):
                with self.assertRaises(Clash) as caught:
                    narrowed(*pair)
                self.assertEqual(vars(caught.exception), {"crossing": clashing[0][0], "name": clashing[0][1]})

    def test_small_webs(self):
        seen = {}
        for one, other in web_pairs():
            told = self.check(narrowed, plain_narrowed, one, other)
            seen[told == Clash] = seen.get(told == Clash, 0) + 1
            self.check(narrowed, plain_narrowed, other, one)
        self.assertGreater(min(seen[True], seen[False]), 100)

    def test_great_webs(self):
        seen = {}
        for one, other in great_pairs():
            told = self.check(narrowed, plain_narrowed, one, other)
            seen[told if type(told) is type else "web"] = True
        self.assertEqual(len(seen), 3)

    def test_just_120_posts_and_one_more(self):
        spots = [(crossing, name) for crossing in range(40) for name in ("a", "b", "c", "d")]
        for first, shared in ((60, 0), (60, 30), (1, 1), (120, 0), (120, 120), (0, 0)):
            one = make_web(40, {spot: (0, 1) for spot in spots[:first]})
            for many in (119, 120, 121, 125, 150):
                rest = spots[first - shared:many]
                if len(rest) > 120 or many < first:
                    continue
                other = make_web(40, {spot: (1, 2) for spot in rest})
                for pair in ((one, other), (other, one)):
                    told = self.check(narrowed, plain_narrowed, *pair)
                    self.assertEqual(told == TooMany, many > 120)
                    if many <= 120:
                        self.assertEqual(len(told[1]), many)

    def test_clash_ahead_of_too_many(self):
        spots = [(crossing, name) for crossing in range(40) for name in ("a", "b", "c", "d")]
        for at in (41, 60, 79):
            one = make_web(40, {spot: (0, 1) for spot in spots[:80]})
            other = make_web(40, {spot: (2,) if spot == spots[at] else (1,) for spot in spots[40:]})
            for pair in ((one, other), (other, one)):
                self.assertIs(self.check(narrowed, plain_narrowed, *pair), Clash)
        other = make_web(40, {spot: (1,) for spot in spots[40:]})
        with self.assertRaises(TooMany) as caught:
            narrowed(one, other)
        self.assertEqual(vars(caught.exception), {"many": 160})

    def test_it_knows_more_than_either(self):
        won = 0
        for one, other in web_pairs():
            told = plain_narrowed(one, other)
            if type(told[0]) is type:
                continue
            told = narrowed(one, other)
            self.assertTrue(knows_more(told, one) and knows_more(told, other))
            for word, goals in itertools.product(SHORT_WORDS[::3], some_goals(one)):
                mine, theirs = plain_marks(one, word, goals), plain_marks(other, word, goals)
                both = set(marks(told, word, goals=goals))
                self.assertLessEqual(mine | theirs, both)
                won += both != mine | theirs
        self.assertGreater(won, 100)

    def test_its_worlds_are_those_of_both(self):
        for one, other in itertools.islice(web_pairs(), 0, None, 5):
            if arms_in(one).keys() == arms_in(other).keys() and type(plain_narrowed(one, other)[0]) is int:
                self.assertEqual(set(worlds_of(narrowed(one, other))), {*worlds_of(one)} & {*worlds_of(other)})


class TestCommon(TestBeside):
    def test_told_ones(self):
        other = make_web(3, {(0, "a"): (0, 2), (0, "c"): (0,), (2, "b"): (0, 1, 2)})
        told = make_web(3, {(0, "a"): (0, 1, 2), (2, "b"): (0, 1, 2)})
        self.assertEqual(common(WEB, other), told)
        self.assertEqual(common(other, WEB), told)
        self.assertEqual(common(other=other, one=WEB), told)
        self.assertEqual(common(WEB, (3, ())), (3, ()))
        self.assertEqual(common((0, ()), (0, ())), (0, ()))

    def test_small_and_great_webs(self):
        seen = {}
        for one, other in itertools.chain(web_pairs(), great_pairs()):
            told = self.check(common, plain_common, one, other)
            seen[told if type(told) is type else "web"] = True
        self.assertEqual(len(seen), 2)

    def test_just_eight_arms_and_one_more(self):
        for mine, theirs in itertools.product(range(1, 9), repeat=2):
            for shared in range(min(mine, theirs) + 1):
                one = make_web(20, {(3, "a"): range(mine), (4, "a"): range(8)})
                other = make_web(20, {(3, "a"): range(mine - shared, mine - shared + theirs), (4, "a"): range(8)})
                told = self.check(common, plain_common, one, other)
                many = mine + theirs - shared
                self.assertEqual(told == TooMany, many > 8)
                if many <= 8:
                    self.assertEqual(len(told[1][0][2]), many)

    def test_too_many_of_the_first_post(self):
        for order in itertools.permutations((8, 9, 11, 16)):
            one = make_web(20, {(at, "a"): range(many // 2) for at, many in enumerate(order)})
            other = make_web(20, {(at, "a"): range(many // 2, many) for at, many in enumerate(order)})
            with self.assertRaises(TooMany) as caught:
                common(one, other)
            self.assertEqual(vars(caught.exception), {"many": [many for many in order if many > 8][0]})
        # A post that stands in but one of them is none of the two.
        one = make_web(20, {(0, "a"): range(8), (1, "a"): (1,)})
        other = make_web(20, {(0, "b"): range(8, 16), (1, "a"): (2,)})
        self.assertEqual(common(one, other), make_web(20, {(1, "a"): (1, 2)}))

    def test_either_knows_more_than_it(self):
        lost = 0
        for one, other in web_pairs():
            told = common(one, other)
            self.assertTrue(knows_more(one, told) and knows_more(other, told))
            for word, goals in itertools.product(SHORT_WORDS[::3], some_goals(one)):
                both = plain_marks(one, word, goals) & plain_marks(other, word, goals)
                left = set(marks(told, word, goals=goals))
                self.assertLessEqual(left, both)
                lost += left != both
        self.assertGreater(lost, 100)


if __name__ == "__main__":
    unittest.main()
