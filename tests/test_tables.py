"""Points 2, 3 (j) and 34: tables and their webs."""

import itertools
import random
import unittest

from tests.helper import (
    great_tables, look, odd_things, plain_table, plain_table_web, plain_web, small_tables, spoilt)
from woundwalks.errors import TooMany, WalkError
from woundwalks.marks import marks
from woundwalks.tables import clashes, is_table, keys_of, web_of

TABLE = (("x", "a", "y"), ("x1", "b", "x"), ("x", "a", "9"), ("y", "b", "x"), ("x", "a", "y"), ("x", "b", "x"))


def fan(many, arms=1, names="abc"):
    """A table of so many (KEY, NAME), each with so many last KEYs of twelve."""
    spots = list(itertools.product([f"k{number}" for number in range(12)], names))[:many]
    return tuple((key, name, f"k{arm}") for key, name in spots for arm in range(arms))


class TestIsTable(unittest.TestCase):
    def test_told_ones(self):
        self.assertIs(is_table(TABLE), True)
        self.assertIs(is_table(()), True)
        self.assertIs(is_table((("a", "a", "a"),)), True)
        self.assertIs(is_table((("a", "a", "a"), ("a", "a", "a"))), True)
        self.assertIs(is_table(TABLE[::-1]), True)

    def test_keys_and_names(self):
        good = ("a", "z", "0", "9", "a0", "0a", "abcdefghijkl", "012345678901", "000000000000", "z9z9z9z9z9z9")
        bad = ("", "abcdefghijklm", "0123456789012", "A", "a b", "-", "a-", "a_b", "a.", " a", "a ", "a\n", "\n", "~", "!",
               "aA", "x" * 20000, None, 0, True, b"a", ("a",), ["a"], [])
        for key in good:
            self.assertIs(is_table(((key, "a", "b"),)), True)
            self.assertIs(is_table((("b", "a", key),)), True)
        for key in bad:
            self.assertIs(is_table(((key, "a", "b"),)), False)
            self.assertIs(is_table((("b", "a", key),)), False)
            self.assertIs(is_table((*TABLE, (key, "a", "b"))), False)
            self.assertIs(is_table((("b", "a", key), *TABLE)), False)
        for name in ("a", "zzzzzz"):
            self.assertIs(is_table((("1", name, "2"),)), True)
        for name in ("", "a1", "1", "abcdefg", "A", "a b", None, 1, ("a",), b"a"):
            self.assertIs(is_table((("1", name, "2"),)), False)

    def test_rows_of_another_form(self):
        for row in ((), ("a",), ("a", "a"), ("a", "a", "a", "a"), ["a", "a", "a"], "aaa", None, {"a": 1}, ("a", ("a", "a"))):
            self.assertIs(is_table((row,)), False)
            self.assertIs(is_table((*TABLE, row)), False)
        self.assertIs(is_table(list(TABLE)), False)
        self.assertIs(is_table((TABLE,)), False)

    def test_200_rows_and_one_more(self):
        for rows in (("a", "a", "a"),), TABLE, fan(36, 6):
            many = tuple(itertools.islice(itertools.cycle(rows), 201))
            self.assertIs(is_table(many[:200]), True)
            self.assertIs(is_table(many), False)
        # 41 KEYs, nine arms: a table all the same.
        self.assertIs(is_table(tuple((f"k{number}", "a", "k0") for number in range(200))), True)

    def test_spoilt_ones(self):
        for table in ((), TABLE[:2], TABLE[3:4]):
            for thing in spoilt(table):
                before = look(thing)
                self.assertIs(is_table(thing), plain_table(thing))
                self.assertEqual(look(thing), before)

    def test_of_anything(self):
        for thing in odd_things():
            self.assertIs(is_table(thing), plain_table(thing))
            self.assertIs(is_table((thing,)), False)
            self.assertIs(is_table(((thing,) * 3,)), plain_table(((thing,) * 3,)))
            self.assertIs(is_table((("a", thing, "b"),)), plain_table((("a", thing, "b"),)))


class TestOfTables(unittest.TestCase):
    def check(self, table):
        before = look(table)
        known = sorted({key for row in table for key in (row[0], row[2])})
        self.assertEqual(look(keys_of(table)), look(tuple(known)))
        lasts = {}
        for key, name, last in table:
            lasts.setdefault((key, name), set()).add(last)
        self.assertEqual(look(clashes(table)), look(tuple(sorted(spot for spot in lasts if len(lasts[spot]) > 1))))
        due = [len(known)] * (len(known) > 40) + [len(lasts)] * (len(lasts) > 120)
        due += [len(lasts[spot]) for spot in sorted(lasts) if len(lasts[spot]) > 8]
        if due:
            with self.assertRaises(WalkError) as caught:
                web_of(table)
            self.assertIs(type(caught.exception), TooMany)
            self.assertEqual(look(vars(caught.exception)), look({"many": due[0]}))
            told = None
        else:
            told = web_of(table)
            self.assertEqual(look(told), look(plain_table_web(table)))
            self.assertTrue(plain_web(told))
        self.assertEqual(look(table), before)
        return told

    def test_told_ones(self):
        self.assertEqual(keys_of(TABLE), ("9", "x", "x1", "y"))
        self.assertEqual(clashes(TABLE), (("x", "a"),))
        self.assertEqual(web_of(TABLE), (4, ((1, "a", (0, 3)), (1, "b", (1,)), (2, "b", (1,)), (3, "b", (1,)))))
        self.assertEqual((keys_of(()), clashes(()), web_of(())), ((), (), (0, ())))
        self.assertEqual(keys_of(table=(("b", "a", "a"),)), ("a", "b"))
        self.assertEqual(web_of(table=(("b", "a", "a"),)), (2, ((1, "a", (0,)),)))
        self.assertEqual(clashes(table=(("b", "a", "a"), ("b", "a", "b"))), (("b", "a"),))

    def test_figures_sort_ahead_of_letters(self):
        table = (("b", "a", "10"), ("a", "a", "9"), ("10", "a", "b"), ("a1", "a", "a"))
        self.assertEqual(keys_of(table), ("10", "9", "a", "a1", "b"))
        self.assertEqual(web_of(table), (5, ((0, "a", (4,)), (2, "a", (1,)), (3, "a", (2,)), (4, "a", (0,)))))

    def test_small_tables(self):
        clashing = 0
        for table in small_tables(300):
            self.assertTrue(plain_table(table))
            self.assertIs(is_table(table), True)
            self.assertIsNotNone(self.check(table))
            clashing += len(clashes(table)) > 0
        self.assertGreater(clashing, 100)

    def test_rows_twice_and_in_any_order(self):
        rng = random.Random(34)
        for table in small_tables(60) + great_tables():
            told = keys_of(table), clashes(table), web_of(table)
            for _ in range(3):
                rows = list(table) + rng.sample(table, len(table) // 2)
                rng.shuffle(rows)
                other = tuple(rows)
                self.assertEqual((keys_of(other), clashes(other), web_of(other)), told)

    def test_great_tables(self):
        sizes = set()
        for table in great_tables():
            self.assertTrue(plain_table(table))
            self.assertIs(is_table(table), True)
            web = self.check(table)
            sizes |= {("keys", web[0]), ("posts", len(web[1])), ("rows", len(table))}
            sizes |= {("arms", len(post[2])) for post in web[1]}
        self.assertLessEqual({("keys", 40), ("posts", 120), ("rows", 200), ("arms", 8)}, sizes)

    def test_40_keys_and_one_more(self):
        for many in (39, 40, 41, 42, 100):
            rows = [(f"k{number}", "a", f"k{number + 1}") for number in range(many - 1)]
            self.assertEqual(self.check(tuple(rows)) is None, many > 40)
            # KEYs that are only told as last ones count, too.
            rows = [(f"k{number % 7}", "abcdef"[number % 6], f"k{number}") for number in range(many)]
            self.assertEqual(self.check(tuple(rows)) is None, many > 40)

    def test_120_posts_and_one_more(self):
        for many in (119, 120, 121, 144):
            table = fan(many, 1, [f"n{letter}" for letter in "abcdefghijkl"])
            self.assertEqual(len(table), many)
            self.assertEqual(self.check(table) is None, many > 120)

    def test_eight_arms_and_one_more(self):
        for arms in (7, 8, 9, 12):
            for at in (0, 3, 9):
                table = tuple(row for number in range(10) for row in
                              [(f"k{number}", "a", f"k{arm}") for arm in range(arms if number == at else 2)])
                told = self.check(table)
                self.assertEqual(told is None, arms > 8)

    def test_too_many_in_its_order(self):
        names = [f"n{letter}" for letter in "abcdefghijklm"]
        posts = fan(121, 1, names)
        arms = tuple(("k3", "zz", f"k{arm}") for arm in range(9)) + tuple(("k1", "zz", f"k{arm}") for arm in range(10))
        keys = tuple((f"q{number}", "a", "q0") for number in range(41))
        self.assertEqual(len(posts + arms + keys), 181)
        for table, many in ((arms, 10), (arms[:9], 9), (posts, 121), (posts + arms, 123), (arms + posts, 123),
                            (keys, 41), (keys + posts + arms, 51), (arms + keys, 51)):
            with self.assertRaises(TooMany) as caught:
                web_of(table)
            self.assertEqual(vars(caught.exception), {"many": many})
            self.check(table)

    def test_tables_beyond(self):
        """More rows than a table may have: no error for that alone."""
        table = tuple(itertools.islice(itertools.cycle(TABLE), 230))
        self.assertEqual((keys_of(table), clashes(table), web_of(table)), (keys_of(TABLE), clashes(TABLE), web_of(TABLE)))

    def test_marks_of_its_web(self):
        """What is told of the web is told of the KEYs by their order."""
        table = (("root", "next", "left"), ("root", "next", "right"), ("left", "end", "leaf"), ("right", "end", "leaf"))
        web, keys = web_of(table), keys_of(table)
        self.assertEqual(keys, ("leaf", "left", "right", "root"))
        self.assertEqual([(keys[crossing], place) for crossing, place in marks(web, ("next", "end"), goals=(0,))],
                         [("leaf", 2), ("left", 1), ("right", 1), ("root", 0)])


if __name__ == "__main__":
    unittest.main()
