"""Points 2, 3 (j) and 35: keepings of tables."""

import itertools
import random
import unittest

from tests.helper import (
    great_tables, look, no_numbers, odd_things, plain_keepings, plain_table_web, refused, small_tables, spoilt, worlds_of)
from woundwalks.errors import NoNumber
from woundwalks.keepings import chain, count_keepings, is_keeping, keeping_at
from woundwalks.tables import keys_of, web_of
from woundwalks.worlds import count_worlds, gone, world_at

TABLE = (("x", "a", "y"), ("x1", "b", "x"), ("x", "a", "9"), ("y", "b", "x"), ("x", "a", "y"), ("x", "b", "x"))


def plain_chain(keeping, key, row):
    told = [key]
    for name in row:
        further = [last for first, called, last in keeping if (first, called) == (told[-1], name)]
        if not further:
            break
        told += further
    return tuple(told)


def in_keys(table, world):
    """The rows that are right in a world of the table's web."""
    web, keys = plain_table_web(table), keys_of(table)
    return tuple((keys[crossing], name, keys[arm]) for (crossing, name, _), arm in zip(web[1], world))


class TestKeepings(unittest.TestCase):
    def test_told_ones(self):
        first = (("x", "a", "9"), ("x", "b", "x"), ("x1", "b", "x"), ("y", "b", "x"))
        second = (("x", "a", "y"), *first[1:])
        self.assertEqual(count_keepings(TABLE), 2)
        self.assertEqual([keeping_at(TABLE, number) for number in range(2)], [first, second])
        self.assertIs(is_keeping(TABLE, first), True)
        self.assertIs(is_keeping(TABLE, second), True)
        self.assertEqual(chain(TABLE, first, "y", ("b", "a", "a")), ("y", "x", "9"))
        self.assertEqual(chain(TABLE, second, "y", ("b", "a", "b", "b")), ("y", "x", "y", "x", "x"))
        self.assertEqual(count_keepings(()), 1)
        self.assertEqual(keeping_at((), 0), ())
        self.assertIs(is_keeping((), ()), True)
        self.assertEqual(keeping_at(number=1, table=TABLE), second)
        self.assertIs(is_keeping(thing=second, table=TABLE), True)
        self.assertEqual(chain(row=("a",), key="x", keeping=second, table=TABLE), ("x", "y"))

    def test_small_tables_against_all_of_them(self):
        most = 0
        for table in small_tables(200):
            before = look(table)
            plain = plain_keepings(table)
            self.assertEqual(count_keepings(table), len(plain))
            self.assertIs(type(count_keepings(table)), int)
            self.assertEqual(look([keeping_at(table, number) for number in range(len(plain))]), look(plain))
            for number, keeping in enumerate(plain):
                self.assertIs(is_keeping(table, keeping), True)
                # The so-manieth world of its web.
                self.assertEqual(in_keys(table, worlds_of(plain_table_web(table))[number]), keeping)
                self.assertEqual(in_keys(table, world_at(web_of(table), number)), keeping)
            for number in (-1, len(plain), len(plain) + 1):
                refused(self, NoNumber, number, keeping_at, table, number)
            self.assertEqual(look(table), before)
            most = max(most, len(plain))
        self.assertGreater(most, 10)

    def test_all_tuples_of_rows(self):
        for table in small_tables(60):
            rows = sorted(set(table))
            if len(rows) > 6:
                continue
            plain = plain_keepings(table)
            for size in range(len(rows) + 1):
                for thing in itertools.permutations(rows, size):
                    self.assertIs(is_keeping(table, thing), thing in plain)

    def test_no_number(self):
        for thing in no_numbers(2):
            refused(self, NoNumber, thing, keeping_at, TABLE, thing)
        for thing in no_numbers(1):
            refused(self, NoNumber, thing, keeping_at, (), thing)

    def test_spoilt_keepings(self):
        for table in (TABLE, (), TABLE[:1], small_tables(40)[-1]):
            plain = plain_keepings(table)
            for keeping in plain[:2]:
                for thing in spoilt(keeping):
                    before = look(thing)
                    told = look(thing) in [look(one) for one in plain]
                    self.assertIs(is_keeping(table, thing), told, thing)
                    self.assertEqual(look(thing), before)

    def test_of_anything(self):
        for table in small_tables(30):
            for thing in odd_things():
                self.assertIs(is_keeping(table, thing), type(thing) is tuple and not thing and not table)
                self.assertIs(is_keeping(table, (thing,)), False)
        row = ("x", "a", "y")
        for thing in ([row], (list(row),), (row, row), (("x", "a"),), (("x", "a", "y", "y"),), (("x", "a", ["y"]),),
                      (("x", ("a",), "y"),), ((None, "a", "y"),), (("x", "a", "x"),), (("y", "a", "y"),), row):
            self.assertIs(is_keeping((row,), thing), False)
        self.assertIs(is_keeping((row, row), (row,)), True)

    def test_chains_of_small_tables(self):
        rng = random.Random(35)
        stopped = 0
        for table in small_tables(150):
            keys = keys_of(table)
            for number, keeping in enumerate(plain_keepings(table)[:6]):
                for key in keys:
                    row = tuple(rng.choice("abc" if rng.random() < 0.1 else "ab") for _ in range(rng.randint(0, 6)))
                    told = chain(table, keeping, key, row)
                    self.assertEqual(look(told), look(plain_chain(keeping, key, row)))
                    beside = gone(web_of(table), world_at(web_of(table), number), keys.index(key), row)
                    self.assertEqual(tuple(keys[crossing] for crossing in beside), told)
                    stopped += len(told) <= len(row)
        self.assertGreater(stopped, 200)

    def test_long_chains(self):
        table = tuple((f"k{at}", "a", f"k{(at + 1) % 40}") for at in range(40))
        told = chain(table, keeping_at(table, 0), "k7", ("a",) * 400)
        self.assertEqual(told, tuple(f"k{(7 + at) % 40}" for at in range(401)))
        self.assertEqual(chain(table, keeping_at(table, 0), "k7", ("a",) * 100 + ("b",) * 300), told[:101])
        self.assertEqual(chain(table, keeping_at(table, 0), "k7", ()), ("k7",))

    def test_great_tables(self):
        rng = random.Random(36)
        for table in great_tables():
            many = count_keepings(table)
            self.assertEqual(many, count_worlds(web_of(table)))
            last = None
            for number in sorted([0, 1, many - 1, *[rng.randrange(many) for _ in range(5)]]):
                keeping = keeping_at(table, number)
                self.assertIs(is_keeping(table, keeping), True)
                self.assertEqual(keeping, in_keys(table, world_at(web_of(table), number)))
                self.assertLessEqual(set(keeping), set(table))
                self.assertTrue(last is None or last[0] == number or last[1] < keeping)
                last = number, keeping
                self.assertIs(is_keeping(table, keeping[1:]), False)
                self.assertIs(is_keeping(table, keeping[::-1]), False)
                row = tuple(rng.choice("abc") for _ in range(400))
                key = rng.choice(keys_of(table))
                self.assertEqual(chain(table, keeping, key, row), plain_chain(keeping, key, row))
            refused(self, NoNumber, many, keeping_at, table, many)
            refused(self, NoNumber, 10 ** 399, keeping_at, table, 10 ** 399)


if __name__ == "__main__":
    unittest.main()
