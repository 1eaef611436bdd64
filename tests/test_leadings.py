"""Points 2, 3 (h) and 29: leadings."""

import itertools
import random
import unittest

from tests.helper import (
    SHORT_WORDS, great_webs, look, make_web, odd_things, plain_goals, plain_marks, small_webs, some_goals, some_web,
    spoilt)
from woundwalks.leadings import follows, is_leading, led
from woundwalks.marks import marks

WEB = (3, ((0, "a", (1, 2)), (1, "b", (2,)), (2, "b", (0, 1))))


def plain_leading(web, other, thing):
    """Point 29, to the letter."""
    if type(thing) is not tuple or len(thing) != web[0]:
        return False
    if any(type(part) is not int or part not in range(other[0]) for part in thing):
        return False
    here = {post[:2]: post[2] for post in web[1]}
    return all((c, name) in here and all(thing[d] in arms for d in here[c, name])
               for c in range(web[0]) for e, name, arms in other[1] if e == thing[c])


def may_stay(web, other, some, pair):
    """Whether this pair has all that it needs in this set."""
    here = {post[:2]: post[2] for post in web[1]}
    return all((pair[0], name) in here and all(any((d, g) in some for g in arms) for d in here[pair[0], name])
               for e, name, arms in other[1] if e == pair[1])


def greatest_by_trying(web, other):
    """All sets that are such, put together."""
    pairs = list(itertools.product(range(web[0]), range(other[0])))
    told = set()
    for size in range(len(pairs) + 1):
        for some in map(set, itertools.combinations(pairs, size)):
            if all(may_stay(web, other, some, pair) for pair in some):
                told |= some
    assert all(may_stay(web, other, told, pair) for pair in told)
    return told


def greatest_by_dropping(web, other):
    told = set(itertools.product(range(web[0]), range(other[0])))
    while True:
        left = {pair for pair in told if may_stay(web, other, told, pair)}
        if left == told:
            return told
        told = left


def mixed_pairs():
    """Small webs two and two, of unlike many crossings, too."""
    return itertools.product(small_webs(40), small_webs(90)[::-3])


def led_web(rng, other, n, names="ab"):
    """A web and a leading of it into the other one, by chance."""
    f = tuple(rng.randrange(other[0]) for _ in range(n))
    posts = {}
    for c, name in itertools.product(range(n), names):
        there = [arms for e, called, arms in other[1] if (e, called) == (f[c], name)]
        fitting = [d for d in range(n) if not there or f[d] in there[0]]
        if there and not fitting:
            return None
        if (there or rng.random() < 0.5) and len(posts) < 120:
            posts[c, name] = rng.sample(fitting, rng.randint(1, min(8, len(fitting))))
    web = make_web(n, posts)
    return (web, f) if plain_leading(web, other, f) else None


class TestIsLeading(unittest.TestCase):
    def test_told_ones(self):
        self.assertIs(is_leading(WEB, WEB, (0, 1, 2)), True)
        self.assertIs(is_leading(WEB, WEB, (1, 0, 2)), False)
        other = (2, ((0, "a", (1,)), (1, "b", (0, 1))))
        self.assertIs(is_leading(WEB, other, (0, 1, 1)), True)
        self.assertIs(is_leading(WEB, other, (0, 0, 1)), False)
        # More posts here do no harm, posts of the other that are lacking here do.
        self.assertIs(is_leading(WEB, (2, ((1, "b", (0, 1)),)), (0, 1, 1)), True)
        self.assertIs(is_leading(WEB, (2, ((0, "c", (0,)), (1, "b", (0, 1)))), (0, 1, 1)), False)
        # An arm here that is led to no arm there.
        self.assertIs(is_leading(WEB, (2, ((0, "a", (1,)), (1, "b", (1,)))), (0, 1, 1)), False)

    def test_webs_of_none(self):
        for other in small_webs(20):
            self.assertIs(is_leading((0, ()), other, ()), True)
            self.assertIs(is_leading((0, ()), other, (0,)), False)
            self.assertIs(is_leading(other, (0, ()), ()), other[0] == 0)
            self.assertIs(is_leading(other, (0, ()), (0,) * other[0]), other[0] == 0)
            self.assertIs(is_leading(other, (1, ()), (0,) * other[0]), True)

    def test_all_tuples_of_small_webs(self):
        told = {True: 0, False: 0}
        for web, other in mixed_pairs():
            for thing in itertools.product(range(-1, other[0] + 1), repeat=web[0]):
                leads = is_leading(web, other, thing)
                self.assertIs(leads, plain_leading(web, other, thing), (web, other, thing))
                told[leads] += 1
        self.assertGreater(min(told.values()), 1000)

    def test_spoilt_ones(self):
        other = (2, ((0, "a", (1,)), (1, "b", (0, 1))))
        for web, into, thing in ((WEB, other, (0, 1, 1)), (WEB, WEB, (0, 1, 2)), ((0, ()), WEB, ())):
            self.assertIs(is_leading(web, into, thing), True)
            for spoilt_one in spoilt(thing):
                before = look(spoilt_one)
                self.assertIs(is_leading(web, into, spoilt_one), plain_leading(web, into, spoilt_one))
                self.assertEqual(look(spoilt_one), before)
        for thing in ((False, True, True), (0, True, 1), (0, 1, True), [0, 1, 1], (0, 1), (0, 1, 1, 1)):
            self.assertIs(is_leading(WEB, other, thing), False)

    def test_of_anything(self):
        for web, other in itertools.islice(mixed_pairs(), 0, None, 29):
            for thing in odd_things():
                self.assertIs(is_leading(web, other, thing), plain_leading(web, other, thing))
                self.assertIs(is_leading(web, other, (thing,) * web[0]), plain_leading(web, other, (thing,) * web[0]))

    def test_great_webs(self):
        rng = random.Random(29)
        told = 0
        for web, _, _ in great_webs()[::5]:
            self.assertIs(is_leading(web, web, tuple(range(40))), True)
            swapped = (1, 0, *range(2, 40))
            self.assertIs(is_leading(web, web, swapped), plain_leading(web, web, swapped))
            made = led_web(rng, web, 40, "abc")
            if made:
                told += 1
                self.assertIs(is_leading(made[0], web, made[1]), True)
        self.assertGreater(told, 1)


class TestFollows(unittest.TestCase):
    def test_told_ones(self):
        self.assertEqual(follows(WEB, WEB), ((0, 0), (1, 1), (2, 2)))
        self.assertEqual(follows(WEB, (2, ((0, "b", (0, 1)),))), ((0, 1), (1, 0), (1, 1), (2, 0), (2, 1)))
        self.assertEqual(follows(WEB, (1, ())), ((0, 0), (1, 0), (2, 0)))
        self.assertEqual(follows((0, ()), WEB), ())
        self.assertEqual(follows(WEB, (0, ())), ())
        # Round and round: each stays for the other's sake.
        ring = (2, ((0, "a", (1,)), (1, "a", (0,))))
        self.assertEqual(follows(ring, ring), ((0, 0), (0, 1), (1, 0), (1, 1)))
        self.assertEqual(follows(ring, (1, ((0, "a", (0,)),))), ((0, 0), (1, 0)))
        # The last of a chain lacks a post: so all ahead of it fall, one by one.
        chain = make_web(40, {(c, "a"): (c + 1,) for c in range(39)})
        self.assertEqual(follows(chain, (1, ((0, "a", (0,)),))), ())
        self.assertEqual(follows(chain, chain), tuple((c, e) for c in range(40) for e in range(c, 40)))

    def test_small_webs_against_all_sets(self):
        sizes = {}
        for web, other in itertools.islice(mixed_pairs(), 0, None, 7):
            told = follows(web, other)
            self.assertIs(type(told), tuple)
            self.assertEqual(told, tuple(sorted(greatest_by_trying(web, other))), (web, other))
            sizes[len(told)] = sizes.get(len(told), 0) + 1
        self.assertGreater(len(sizes), 7)

    def test_more_webs_by_dropping(self):
        rng = random.Random(30)
        sizes = set()
        for web, other in mixed_pairs():
            self.assertEqual(follows(web, other), tuple(sorted(greatest_by_dropping(web, other))))
        for _ in range(120):
            names = rng.choice(("a", "ab", "abc"))
            n, m = rng.randint(2, 8), rng.randint(2, 8)
            web = some_web(rng, n, names, rng.randint(n, 2 * n), rng.randint(1, 3))
            other = some_web(rng, m, names, rng.randint(1, m), rng.randint(1, 3))
            told = follows(web, other)
            self.assertEqual(told, tuple(sorted(greatest_by_dropping(web, other))))
            sizes.add(len(told))
        self.assertGreater(len(sizes), 15)

    def test_each_leading_is_in_it(self):
        many = 0
        for web, other in itertools.islice(mixed_pairs(), 0, None, 3):
            told = set(follows(web, other))
            for thing in itertools.product(range(other[0]), repeat=web[0]):
                if is_leading(web, other, thing):
                    self.assertLessEqual(set(enumerate(thing)), told)
                    many += 1
        self.assertGreater(many, 300)

    def test_great_webs(self):
        rng = random.Random(31)
        webs = [web for web, _, _ in great_webs()[::5]]
        webs += [some_web(rng, 40, names, 120, arms, 8) for names in ("abcd", "abcdef") for arms in (1, 2, 8)]
        sizes = set()
        for web, other in [*itertools.islice(itertools.permutations(webs, 2), 0, None, 13), *zip(webs, webs)]:
            told = follows(web, other)
            self.assertEqual(told, tuple(sorted(greatest_by_dropping(web, other))))
            sizes.add(len(told))
        self.assertGreater(len(sizes), 3)
        self.assertIn(1600, sizes)


class TestLed(unittest.TestCase):
    def test_told_ones(self):
        other = (2, ((0, "a", (1,)), (1, "b", (0, 1))))
        self.assertEqual(led(WEB, other, (0, 1, 1), (1,)), (1, 2))
        self.assertEqual(led(WEB, other, (0, 1, 1), (0,)), (0,))
        self.assertEqual(led(WEB, other, (0, 1, 1), ()), ())
        self.assertEqual(led(WEB, other, (0, 1, 1), None), (0, 1, 2))
        self.assertEqual(led(goals=(1,), thing=(0, 1, 1), other=other, web=WEB), (1, 2))
        self.assertEqual(led((0, ()), other, (), None), ())
        with self.assertRaises(TypeError):
            led(WEB, other, (0, 1, 1))

    def test_small_webs_and_what_marks_do(self):
        rng = random.Random(32)
        many = marked = 0
        webs = [web for web in small_webs(120) if web[0]]
        while many < 150:
            other = rng.choice(webs)
            made = led_web(rng, other, rng.randint(1, 5))
            if not made:
                continue
            many += 1
            web, thing = made
            self.assertIs(is_leading(web, other, thing), True)
            for goals in some_goals(other):
                told = led(web, other, thing, goals)
                ends = plain_goals(other, goals)
                self.assertEqual(told, tuple(c for c in range(web[0]) if thing[c] in ends))
                for word in SHORT_WORDS[::2]:
                    there = plain_marks(other, word, goals)
                    here = set(marks(web, word, goals=told))
                    back = {(c, place) for c in range(web[0]) for place in range(len(word) + 1)
                            if (thing[c], place) in there}
                    self.assertLessEqual(back, here)
                    marked += len(back)
        self.assertGreater(marked, 3000)

    def test_marks_go_along_what_follows(self):
        """Each mark of the other one is one here, too, wherever one follows it: goals are those that follow a goal."""
        marked = 0
        for web, other in itertools.islice(mixed_pairs(), 0, None, 5):
            pairs = follows(web, other)
            for word in SHORT_WORDS[::3]:
                there = set(marks(other, word))
                here = set(marks(web, word))
                back = {(c, place) for c, e in pairs for place in range(len(word) + 1) if (e, place) in there}
                self.assertLessEqual(back, here)
                marked += len(back)
        self.assertGreater(marked, 1000)

    def test_great_webs(self):
        rng = random.Random(33)
        marked = 0
        for other, word, goals in great_webs():
            made = led_web(rng, other, 40, "abc")
            # The web itself, its crossings told anew, is always led into it.
            order = rng.sample(range(40), 40)
            turned = make_web(40, {(order.index(e), name): [order.index(d) for d in arms] for e, name, arms in other[1]})
            for web, thing in [made] * bool(made) + [(turned, tuple(order))]:
                self.assertIs(is_leading(web, other, thing), True)
                told = led(web, other, thing, goals)
                ends = plain_goals(other, goals)
                self.assertEqual(told, tuple(c for c in range(40) if thing[c] in ends))
                there, here = set(marks(other, word, goals=goals)), set(marks(web, word, goals=told))
                back = {(c, place) for c in range(40) for place in range(13) if (thing[c], place) in there}
                self.assertLessEqual(back, here)
                marked += len(back)
        self.assertGreater(marked, 1000)


if __name__ == "__main__":
    unittest.main()
