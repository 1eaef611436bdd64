"""Points 2, 11 and 12: worlds, their numbers, what is gone and walked in them."""

import math
import random
import unittest

from tests.helper import (
    great_webs, look, no_numbers, odd_things, plain_goals, plain_gone, refused, rows_of, small_webs, some_world, spoilt,
    worlds_of)
from woundwalks.errors import NoNumber
from woundwalks.worlds import count_worlds, gone, is_world, number_of, starts, world_at

WEB = (4, ((0, "a", (0, 1)), (0, "b", (3,)), (2, "a", (1, 2, 3)), (3, "c", (0, 3))))


def plain_world(web, thing):
    return (type(thing) is tuple and len(thing) == len(web[1])
            and all(type(arm) is int and arm in post[2] for post, arm in zip(web[1], thing)))


def some_numbers(rng, many):
    return sorted({0, many - 1, many // 2, many // 3, *[rng.randrange(many) for _ in range(5)]})


class TestWorlds(unittest.TestCase):
    def test_all_worlds_of_small_webs(self):
        for web in small_webs(60):
            worlds = worlds_of(web)
            self.assertEqual(count_worlds(web), len(worlds))
            self.assertEqual([world_at(web, number) for number in range(len(worlds))], worlds)
            self.assertEqual([number_of(web, world) for world in worlds], list(range(len(worlds))))
            self.assertTrue(all(is_world(web, world) is True for world in worlds))
            refused(self, NoNumber, len(worlds), world_at, web, len(worlds))

    def test_very_many_worlds(self):
        rng = random.Random(11)
        most = 0
        for web, _, _ in great_webs():
            many = count_worlds(web)
            most = max(most, many)
            self.assertEqual(many, math.prod(len(arms) for _, _, arms in web[1]))
            self.assertEqual(world_at(web, 0), tuple(arms[0] for _, _, arms in web[1]))
            self.assertEqual(world_at(web, many - 1), tuple(arms[-1] for _, _, arms in web[1]))
            numbers = some_numbers(rng, many)
            worlds = [world_at(web, number) for number in numbers]
            self.assertEqual(worlds, sorted(set(worlds)))
            self.assertEqual([number_of(web, world) for world in worlds], numbers)
            self.assertTrue(all(is_world(web, world) is True for world in worlds))
            world = some_world(rng, web)
            self.assertEqual(world_at(web, number_of(web, world)), world)
            refused(self, NoNumber, many, world_at, web, many)
            refused(self, NoNumber, -1, world_at, web, -1)
        self.assertEqual(most, 8 ** 120)

    def test_neighbours_differ_as_they_rise(self):
        web = next(web for web, _, _ in great_webs() if count_worlds(web) == 8 ** 120)
        number = number_of(web, tuple(arms[3] for _, _, arms in web[1]))
        last, further = world_at(web, number), world_at(web, number + 1)
        self.assertEqual(last[:-1], further[:-1])
        self.assertEqual((last[-1], further[-1]), web[1][-1][2][3:5])

    def test_no_posts(self):
        for n in (0, 1, 40):
            self.assertEqual((count_worlds((n, ())), world_at((n, ()), 0), number_of((n, ()), ())), (1, (), 0))
            self.assertIs(is_world((n, ()), ()), True)
            self.assertIs(is_world((n, ()), (0,)), False)
            refused(self, NoNumber, 1, world_at, (n, ()), 1)

    def test_no_number(self):
        for web in (WEB, (0, ()), (2, ((0, "a", (0, 1)),))):
            for thing in no_numbers(count_worlds(web)):
                refused(self, NoNumber, thing, world_at, web, thing)

    def test_is_world_of_anything(self):
        self.assertIs(is_world(WEB, (0, 3, 2, 0)), True)
        for thing in ((False, 3, 2, 0), (True, 3, 2, 0), (0, 3, 2), (0, 3, 2, 0, 0), [0, 3, 2, 0], (2, 3, 2, 0), ("0", 3, 2, 0)):
            self.assertIs(is_world(WEB, thing), False)
        for web in (WEB, (0, ()), (2, ((0, "a", (0, 1)), (1, "a", (1,))))):
            for world in worlds_of(web):
                for thing in spoilt(world):
                    before = look(thing)
                    self.assertIs(is_world(web, thing), plain_world(web, thing))
                    self.assertEqual(look(thing), before)

    def test_is_world_of_great_webs(self):
        rng = random.Random(5)
        for web, _, _ in great_webs()[::4]:
            world = some_world(rng, web)
            for thing in odd_things() + [world[1:], world + (0,), list(world)]:
                self.assertIs(is_world(web, thing), False)
            for wrong in odd_things() + [40]:
                at = rng.randrange(120)
                self.assertIs(is_world(web, world[:at] + (wrong,) + world[at + 1:]), False)

    def test_by_names(self):
        self.assertIs(is_world(thing=(0, 3, 2, 0), web=WEB), True)
        self.assertEqual(count_worlds(web=WEB), 12)
        self.assertEqual(world_at(number=0, web=WEB), (0, 3, 1, 0))
        self.assertEqual(number_of(world=(0, 3, 1, 3), web=WEB), 1)


class TestGone(unittest.TestCase):
    def test_told_ones(self):
        world = (1, 3, 2, 0)
        self.assertEqual(gone(WEB, world, 0, ()), (0,))
        self.assertEqual(gone(WEB, world, 0, ("b", "c", "a", "a")), (0, 3, 0, 1))
        self.assertEqual(gone(WEB, world, 1, ("a", "b")), (1,))
        self.assertEqual(gone(WEB, world, 2, ("a",) * 400), (2,) * 401)
        self.assertEqual(gone(WEB, world, 0, ("b", "c") * 200), (0, 3) * 200 + (0,))
        self.assertEqual(starts(WEB, world, ("b", "c")), (0,))
        self.assertEqual(starts(WEB, world, ("a",)), (0, 2))
        self.assertEqual(starts(WEB, world, ("a",), goals=(1,)), (0,))
        self.assertEqual(starts(WEB, world, ("a",), goals=()), ())
        self.assertEqual(starts(WEB, world, ("x",)), ())

    def test_small_webs(self):
        for web in small_webs(40):
            for world in worlds_of(web)[:4]:
                for row in rows_of("abx", 3):
                    told = [plain_gone(web, world, start, row) for start in range(web[0])]
                    self.assertEqual([gone(web, world, start, row) for start in range(web[0])], told)
                    for goals in (None, (), (0,), tuple(range(web[0]))[1:]):
                        walked = tuple(way[0] for way in told
                                       if len(way) == len(row) + 1 and way[-1] in plain_goals(web, goals))
                        self.assertEqual(starts(web, world, row, goals=goals), walked)

    def test_the_row_of_no_names(self):
        for web in small_webs(20):
            world = worlds_of(web)[0]
            self.assertEqual(starts(web, world, ()), tuple(range(web[0])))
            self.assertEqual(starts(web, world, (), goals=(0,)[:web[0]]), (0,)[:web[0]])

    def test_great_webs_and_rows_of_400_names(self):
        rng = random.Random(400)
        for web, word, goals in great_webs()[::3]:
            world = some_world(rng, web)
            for size in (399, 400):
                row = tuple(rng.choice("abc") for _ in range(size))
                self.assertEqual(gone(web, world, 7, row), plain_gone(web, world, 7, row))
                self.assertEqual(len(gone(web, world, 7, row)), size + 1)
                self.assertEqual(len(gone(web, world, 7, row[:200] + ("x",) + row)), 201)
                self.assertEqual(starts(web, world, row), tuple(range(40)))
                told = tuple(start for start in range(40)
                             if gone(web, world, start, row)[-1] in plain_goals(web, goals))
                self.assertEqual(starts(web, world, row, goals=goals), told)

    def test_goals_left_out_and_said(self):
        for web in small_webs(20):
            for world in worlds_of(web)[:3]:
                told = starts(web, world, ("a",))
                self.assertEqual(starts(web, world, ("a",), goals=None), told)
                self.assertEqual(starts(web, world, ("a",), goals=tuple(range(web[0]))), told)
        with self.assertRaises(TypeError):
            starts(WEB, (0, 3, 2, 0), ("a",), None)

    def test_by_names(self):
        world = (1, 3, 2, 0)
        self.assertEqual(gone(row=("a",), start=0, world=world, web=WEB), (0, 1))
        self.assertEqual(starts(goals=(1,), row=("a",), world=world, web=WEB), (0,))


if __name__ == "__main__":
    unittest.main()
