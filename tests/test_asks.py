"""Points 2 and 20: asks."""

import itertools
import random
import unittest

from tests.helper import (
    great_webs, look, no_numbers, odd_things, plain_fails, plain_rising, rows_of, small_webs, some_asks, some_world,
    sparse_webs, spoilt, worlds_of)
from woundwalks.asks import fails, is_ask, wanted

WEB = (3, ((0, "a", (1, 2)), (1, "b", (2,)), (2, "b", (0, 1))))
WORDS = [*rows_of("ab", 3), ("a", "c")]


def plain_ask(web, thing):
    """Point 20, to the letter."""
    if type(thing) is not tuple or not thing or type(thing[0]) is not str:
        return False
    if thing[0] == "somewhere":
        return len(thing) == 1
    if thing[0] == "from":
        return len(thing) == 2 and type(thing[1]) is int and thing[1] in range(web[0])
    return thing[0] in ("into", "among") and len(thing) == 2 and plain_rising(thing[1], web[0])


class TestIsAsk(unittest.TestCase):
    def test_all_four_forms(self):
        for web in small_webs(20) + [web for web, _, _ in great_webs()[::20]]:
            n = web[0]
            self.assertIs(is_ask(web, ("somewhere",)), True)
            self.assertEqual([is_ask(web, ("from", c)) for c in range(-1, n + 1)], [False] + [True] * n + [False])
            for form in ("into", "among"):
                for told in ((), tuple(range(n)), tuple(range(0, n, 2))):
                    self.assertIs(is_ask(web, (form, told)), True)
                for told in ((n,), (-1,), (0, 0), (1, 0), None, 0, [], [0], range(n), (True,), ("0",)):
                    self.assertIs(is_ask(web, (form, told)), False)
            for thing in (("from",), ("into",), ("among",), ("somewhere", 0), ("somewhere", ()), ("from", ()),
                          ("from", 0, 0), ("into", (), ()), ("elsewhere",), (), "somewhere", ["somewhere"],
                          ("from", True), ("from", False), ("from", None), ("Somewhere",), ("somewhere ",),
                          ("to", (0,)), (0,), (None, 0), ("", ())):
                self.assertIs(is_ask(web, thing), False, thing)

    def test_all_asks_of_small_webs(self):
        for web in small_webs(20):
            self.assertTrue(all(is_ask(web, ask) is True for ask in some_asks(web)))

    def test_all_tuples_of_few_crossings(self):
        for form in ("into", "among", "from", "somewhere"):
            for size in range(4):
                for told in itertools.product(range(-1, 4), repeat=size):
                    self.assertIs(is_ask(WEB, (form, told)), plain_ask(WEB, (form, told)))

    def test_spoilt_ones(self):
        for ask in (("somewhere",), ("from", 1), ("into", (0, 2)), ("among", (0, 1, 2)), ("into", ())):
            for thing in spoilt(ask):
                before = look(thing)
                self.assertIs(is_ask(WEB, thing), plain_ask(WEB, thing))
                self.assertEqual(look(thing), before)

    def test_of_anything(self):
        for thing in odd_things():
            self.assertIs(is_ask(WEB, thing), False)
            self.assertIs(is_ask(WEB, (thing,)), False)
            self.assertIs(is_ask(WEB, ("somewhere", thing)), False)
            self.assertIs(is_ask(WEB, (thing, 0)), False)
            for form in ("into", "among"):
                self.assertIs(is_ask(WEB, (form, thing)), type(thing) is tuple and not thing)
                self.assertIs(is_ask(WEB, (form, (thing,))), False)
        for thing in no_numbers(3):
            self.assertIs(is_ask(WEB, ("from", thing)), False)


class TestFails(unittest.TestCase):
    def test_told_ones(self):
        told = {("somewhere",): False, ("from", 0): False, ("from", 1): True, ("into", (2,)): False,
                ("into", (0, 1)): True, ("into", ()): True, ("among", (0, 1)): False, ("among", (1, 2)): True,
                ("among", ()): True}
        for ask, failed in told.items():
            self.assertIs(fails(WEB, (1, 2, 0), ("a", "b"), ask), failed)

    def test_against_walking_in_each_world(self):
        told = {}
        for web in small_webs(50):
            for world, word, ask in itertools.product(worlds_of(web), WORDS, some_asks(web)):
                failed = plain_fails(web, world, word, ask)
                self.assertIs(fails(web, world, word, ask), failed, (web, world, word, ask))
                told[ask[0], failed] = told.get((ask[0], failed), 0) + 1
        self.assertEqual(len(told), 8)
        self.assertGreater(min(told.values()), 500)

    def test_the_word_of_no_names(self):
        world = (1, 2, 0)
        self.assertEqual([fails(WEB, world, (), ask) for ask in (
            ("somewhere",), ("from", 2), ("into", (1,)), ("into", ()), ("among", (0,)), ("among", ()))],
            [False, False, False, True, False, True])
        self.assertIs(fails((0, ()), (), (), ("somewhere",)), True)
        self.assertIs(fails((0, ()), (), (), ("into", ())), True)

    def test_great_webs(self):
        rng = random.Random(20)
        told = set()
        for web, word, goals in great_webs()[::3] + sparse_webs():
            world = some_world(rng, web)
            some = tuple(sorted(rng.sample(range(40), 5)))
            for row in (word, word[:2]):
                for ask in (("somewhere",), ("from", rng.randrange(40)), ("into", goals or ()), ("into", some),
                            ("among", some), ("among", tuple(range(40)))):
                    failed = plain_fails(web, world, row, ask)
                    self.assertIs(fails(web, world, row, ask), failed)
                    told.add((ask[0], failed))
        self.assertEqual(len(told), 8)

    def test_by_names(self):
        self.assertIs(fails(ask=("from", 0), word=("a",), world=(1, 2, 0), web=WEB), False)
        self.assertIs(is_ask(thing=("from", 0), web=WEB), True)
        self.assertEqual(wanted(ask=("from", 0)), "firm")


class TestWanted(unittest.TestCase):
    def test_all_four(self):
        for web in small_webs(10):
            for ask in some_asks(web):
                told = {"somewhere": "steady", "into": "late", "from": "firm", "among": "firm"}[ask[0]]
                self.assertEqual(wanted(ask), told)


if __name__ == "__main__":
    unittest.main()
