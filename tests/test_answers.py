"""Points 2, 3 (d), (e), 21 and 22: answers, by marks and by all worlds."""

import itertools
import random
import unittest

from tests.helper import (
    asked_ones, great_webs, great_words, is_plain_paper, lacks, make_web, plain_fails, plain_lacking, plain_marks,
    rows_of, small_webs, some_asks, sparse_webs, worlds_of)
from woundwalks.answers import answer, by_worlds, share
from woundwalks.errors import Loose, TooMany
from woundwalks.marklooks import shows_marks
from woundwalks.winding import is_wound

WEB = (3, ((0, "a", (1, 2)), (1, "b", (2,)), (2, "b", (0, 1))))
WORDS = [*rows_of("ab", 3), *map(tuple, ("ac", "aabb", "abab", "abba"))]
WANTED = {"somewhere": "steady", "into": "late", "from": "firm", "among": "firm"}


def of_kind(word, ask):
    return plain_lacking(word, WANTED[ask[0]]) is None


def web_of_worlds(sizes):
    """A web with posts of so many arms, and such of one arm, 120 in all."""
    posts = {(c, name): (c,) for c in range(40) for name in "abc"}
    for c, size in enumerate(sizes):
        posts[c, "a"] = range(size)
    return make_web(40, posts)


class TestAnswer(unittest.TestCase):
    def check_loose(self, web, word, ask):
        kind = WANTED[ask[0]]
        with self.assertRaises(Loose) as caught:
            answer(web, word, ask)
        self.assertIs(type(caught.exception), Loose)
        self.assertEqual((caught.exception.kind, caught.exception.row), (kind, plain_lacking(word, kind)))
        self.assertTrue(lacks(word, kind, caught.exception.row) and is_wound(word, caught.exception.row))

    def check_form(self, web, word, ask, told):
        """What holds of each answer, by itself: told is whether it's sure."""
        crossings, goals = asked_ones(web, ask)
        self.assertIs(type(told), tuple)
        marked = plain_marks(web, word, goals)
        least = [crossing for crossing in sorted(crossings) if (crossing, 0) in marked][:1]
        if not least:
            self.assertEqual((len(told), told[0]), (2, "not"))
            self.assertTrue(type(told[1]) is tuple and len(told[1]) == len(web[1]))
            self.assertTrue(all(arm in post[2] for arm, post in zip(told[1], web[1])))
            self.assertTrue(plain_fails(web, told[1], word, ask))
            return False
        self.assertEqual((len(told), told[:2]), (3, ("sure", least[0])))
        self.assertTrue(is_plain_paper(web, word, goals, told[2]))
        self.assertIs(shows_marks(web, word, told[2], goals=goals), True)
        self.assertIn((least[0], 0), [row[:2] for row in told[2]])
        return True

    def test_told_ones(self):
        web = (2, ((0, "a", (0, 1)), (1, "b", (0, 1))))
        self.assertEqual(answer(web, ("a",), ("from", 0))[:2], ("sure", 0))
        self.assertEqual(answer(web, ("a",), ("from", 1))[0], "not")
        self.assertIn(answer(web, ("a", "b"), ("somewhere",)), (("not", (0, 0)), ("not", (0, 1))))
        self.assertEqual(answer(web, ("b",), ("into", (0, 1)))[:2], ("sure", 1))
        self.assertIn(answer(web, ("b",), ("into", (0,))), (("not", (0, 1)), ("not", (1, 1))))
        self.assertEqual(answer(web, (), ("among", (1,)))[:2], ("sure", 1))
        self.assertEqual(answer((0, ()), (), ("somewhere",)), ("not", ()))
        self.assertEqual(answer((1, ()), (), ("somewhere",))[:2], ("sure", 0))

    def test_small_webs_against_all_worlds(self):
        seen = {}
        for web in small_webs(60):
            worlds = worlds_of(web)
            for word, ask in itertools.product(WORDS, some_asks(web)):
                if not of_kind(word, ask):
                    self.check_loose(web, word, ask)
                    seen[ask[0], "loose"] = seen.get((ask[0], "loose"), 0) + 1
                    continue
                told = answer(web, word, ask)
                sure = self.check_form(web, word, ask, told)
                self.assertIs(sure, not any(plain_fails(web, world, word, ask) for world in worlds), (web, word, ask))
                if sure and ask[0] == "among":
                    # Part (e): one of them does in all worlds.
                    self.assertFalse(any(plain_fails(web, world, word, ("from", told[1])) for world in worlds))
                seen[ask[0], told[0]] = seen.get((ask[0], told[0]), 0) + 1
        self.assertEqual(len(seen), 12)
        self.assertGreater(min(seen.values()), 50)

    def test_sure_by_winding(self):
        """From no one crossing "aab" is walked in all worlds, yet somewhere in each."""
        web = make_web(4, {(0, "a"): (1, 2), (1, "a"): (2,), (2, "a"): (3,), (3, "b"): (3,)})
        told = answer(web, tuple("aab"), ("somewhere",))
        self.check_form(web, tuple("aab"), ("somewhere",), told)
        self.assertEqual(told[:2], ("sure", 0))
        self.assertTrue(any(plain_fails(web, world, tuple("aab"), ("from", 0)) for world in worlds_of(web)))
        self.assertEqual(by_worlds(web, tuple("aab"), ("somewhere",)), ("sure",))
        self.assertEqual(by_worlds(web, tuple("aab"), ("from", 0)), ("not", 0))
        self.assertEqual(share(web, tuple("aab"), ("from", 0)), (1, 2))
        self.check_loose(web, tuple("aab"), ("from", 0))

    def test_crossings_and_goals_of_none(self):
        for web in small_webs(20):
            for word in ((), ("a",), ("a", "b")):
                for ask in (("into", ()), ("among", ())):
                    self.assertFalse(self.check_form(web, word, ask, answer(web, word, ask)))
                    self.assertEqual(by_worlds(web, word, ask), ("not", 0))
                    self.assertEqual(share(web, word, ask), (0, len(worlds_of(web))))

    def test_great_webs(self):
        rng = random.Random(21)
        seen = set()
        for web, word, goals in great_webs()[::2] + sparse_webs():
            some = tuple(sorted(rng.sample(range(40), 6)))
            for size in {len(word), min(3, len(word))}:
                asks = [("somewhere",), ("from", rng.randrange(40)), ("among", some), ("into", some)]
                if goals is not None:
                    asks.append(("into", goals))
                for ask in asks:
                    if of_kind(word[:size], ask):
                        told = answer(web, word[:size], ask)
                        self.check_form(web, word[:size], ask, told)
                        seen.add((ask[0], told[0]))
                    else:
                        self.check_loose(web, word[:size], ask)
                        seen.add((ask[0], "loose"))
        self.assertEqual(len(seen), 12)

    def test_words_of_twelve_names(self):
        onward = make_web(40, {(c, name): {min(39, c + 1), min(39, c + 2)} for c in range(40) for name in "abc"})
        seen = set()
        for word in great_words():
            for ask in (("somewhere",), ("from", 3), ("among", (5, 7)), ("into", (38, 39)), ("into", (0,))):
                if of_kind(word, ask):
                    told = answer(onward, word, ask)
                    self.check_form(onward, word, ask, told)
                    seen.add((ask[0], told[0]))
                else:
                    self.check_loose(onward, word, ask)
        self.assertGreaterEqual(len(seen), 6)

    def test_by_names(self):
        told = answer(WEB, ("a", "b"), ("from", 0))
        self.assertEqual(answer(ask=("from", 0), word=("a", "b"), web=WEB), told)
        self.assertEqual(by_worlds(ask=("from", 0), word=("a", "b"), web=WEB), ("sure",))
        self.assertEqual(share(ask=("from", 0), word=("a", "b"), web=WEB), (4, 4))


class TestByWorlds(unittest.TestCase):
    def check(self, web, word, ask):
        failing = [number for number, world in enumerate(worlds_of(web)) if plain_fails(web, world, word, ask)]
        self.assertEqual(by_worlds(web, word, ask), ("not", failing[0]) if failing else ("sure",))
        many = len(worlds_of(web))
        told = share(web, word, ask)
        self.assertEqual(told, (many - len(failing), many))
        self.assertEqual([type(part) for part in told], [int, int])
        return len(failing)

    def test_against_all_worlds_of_small_webs(self):
        seen = set()
        for web in small_webs(50):
            for word, ask in itertools.product(WORDS, some_asks(web)):
                seen.add((ask[0], self.check(web, word, ask)))
        self.assertGreater(len(seen), 40)

    def test_just_4096_worlds(self):
        for sizes in ((8, 8, 8, 8), (4,) * 6, (2,) * 12):
            web = web_of_worlds(sizes)
            self.assertEqual(len(web[1]), 120)
            self.assertEqual(by_worlds(web, ("a", "a"), ("into", (39,))), ("sure",))
            self.assertEqual(share(web, ("c",) * 12, ("among", (7, 20))), (4096, 4096))
            self.assertEqual(by_worlds(web, ("a", "d"), ("from", 0)), ("not", 0))
            self.assertEqual(share(web, ("a", "d"), ("somewhere",)), (0, 4096))
        web = make_web(8, {(c, "a"): range(8) for c in range(4)} | {(6, "b"): (0,)})
        for ask in (("from", 3), ("into", (0, 2)), ("somewhere",)):
            self.assertGreater(self.check(web, ("a", "b"), ask), 0)

    def test_the_last_world_alone_fails(self):
        web = make_web(9, {(c, "a"): range(8) for c in range(4)} | {(c, "b"): (8,) for c in range(7)})
        told = by_worlds(web, ("a", "b"), ("among", (0, 1, 2, 3)))
        self.assertEqual(told, ("not", 4095))
        self.assertEqual(share(web, ("a", "b"), ("among", (0, 1, 2, 3))), (4095, 4096))

    def test_too_many(self):
        for sizes, many in (((7, 7, 7, 6, 2), 4116), ((8, 8, 8, 8, 2), 8192), ((8,) * 40, 8 ** 40)):
            web = web_of_worlds(sizes)
            for call in (by_worlds, share):
                with self.assertRaises(TooMany) as caught:
                    call(web, ("a",), ("somewhere",))
                self.assertEqual(vars(caught.exception), {"many": many})
        eights = make_web(40, {(c, name): range(c % 33, c % 33 + 8) for c in range(40) for name in "abc"})
        for call, ask in itertools.product((by_worlds, share), (("into", ()), ("among", ()), ("from", 0))):
            with self.assertRaises(TooMany) as caught:
                call(eights, (), ask)
            self.assertEqual(caught.exception.many, 8 ** 120)


if __name__ == "__main__":
    unittest.main()
