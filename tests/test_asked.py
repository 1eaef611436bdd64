"""Points 2, 3 (j) and 36: asks of tables, and clashes that make no difference."""

import itertools
import random
import unittest

from tests.helper import (
    SHORT_WORDS, great_tables, great_words, lacks, look, make_web, plain_keepings, plain_lacking, plain_marks,
    plain_table_web, rows_of, small_tables)
from woundwalks.answers import answer
from woundwalks.asked import asked, freed
from woundwalks.errors import Loose
from woundwalks.keepings import chain, is_keeping
from woundwalks.tables import clashes, keys_of, web_of

TABLE = (("root", "next", "left"), ("root", "next", "right"), ("left", "end", "leaf"), ("right", "end", "leaf"))
WORDS = [*rows_of("ab", 2), *map(tuple, ("aab", "abb", "aba", "abc", "abba", "aaba"))]
WANTED = {"somewhere": "steady", "into": "late", "from": "firm", "among": "firm"}


def asks_of(table):
    """All asks of a small table."""
    keys = keys_of(table)
    tuples = [told for size in range(len(keys) + 1) for told in itertools.combinations(keys, size)]
    return ([("somewhere",)] + [("from", key) for key in keys]
            + [(form, told) for form in ("into", "among") for told in tuples])


def plain_walked(table, keeping, word, ask):
    """The KEYs from which, and the last ones to which, the word is walked in a keeping; whether as asked."""
    ends = {}
    for key in keys_of(table):
        here = key
        for name in word:
            here = next((last for first, called, last in keeping if (first, called) == (here, name)), None)
        if here is not None:
            ends[key] = here
    return {"somewhere": bool(ends), "from": ask[-1] in ends, "among": any(key in ask[-1] for key in ends),
            "into": any(end in ask[-1] for end in ends.values())}[ask[0]]


def plain_freed(table, word):
    web, keys = plain_table_web(table), keys_of(table)
    posts = {post[:2]: post[2] for post in web[1]}
    marked = plain_marks(web, word, None)
    told = []
    for spot, arms in posts.items():
        if len(arms) > 1 and all(plain_marks(make_web(web[0], {**posts, spot: (arm,)}), word, None) == marked
                                 for arm in arms):
            told.append((keys[spot[0]], spot[1]))
    return tuple(sorted(told))


class TestAsked(unittest.TestCase):
    def check(self, table, word, ask):
        """What is told, by its form and beside the answer of the table's web; "loose" where it's refused."""
        before = look((table, word, ask))
        row = plain_lacking(word, WANTED[ask[0]])
        if row is not None:
            with self.assertRaises(Loose) as caught:
                asked(table, word, ask)
            self.assertIs(type(caught.exception), Loose)
            self.assertEqual(look(vars(caught.exception)), look({"kind": WANTED[ask[0]], "row": row}))
            self.assertTrue(lacks(word, WANTED[ask[0]], row))
            return "loose"
        told = asked(table, word, ask)
        self.assertTrue(type(told) is tuple and len(told) == 2)
        keys = keys_of(table)
        here = (ask[0], *[keys.index(part) if type(part) is str else tuple(map(keys.index, part)) for part in ask[1:]])
        beside = answer(web_of(table), word, here)
        self.assertEqual(told[0], beside[0])
        if told[0] == "sure":
            self.assertEqual(told[1], keys[beside[1]])
            self.assertTrue(ask[0] in ("somewhere", "into") or told[1] in ask[1:] or told[1] in ask[1])
        else:
            self.assertEqual(told[0], "not")
            self.assertIs(is_keeping(table, told[1]), True)
            self.assertFalse(plain_walked(table, told[1], word, ask))
        self.assertEqual(look((table, word, ask)), before)
        return told[0]

    def test_told_ones(self):
        self.assertEqual(asked(TABLE, ("next", "end"), ("from", "root")), ("sure", "root"))
        self.assertEqual(asked(TABLE, ("next", "end"), ("into", ("leaf",))), ("sure", "root"))
        self.assertEqual(asked(TABLE, ("next",), ("into", ("left", "right"))), ("sure", "root"))
        self.assertEqual(asked(TABLE, ("next",), ("into", ("left",)))[0], "not")
        self.assertEqual(asked(TABLE, ("next",), ("into", ("left",)))[1][2], ("root", "next", "right"))
        self.assertEqual(asked(TABLE, ("end",), ("among", ("leaf", "right", "root"))), ("sure", "right"))
        self.assertEqual(asked(TABLE, ("end",), ("somewhere",)), ("sure", "left"))
        self.assertEqual(asked(TABLE, (), ("somewhere",)), ("sure", "leaf"))
        self.assertEqual(asked((), (), ("somewhere",)), ("not", ()))
        self.assertEqual(asked((), (), ("into", ())), ("not", ()))
        self.assertEqual(asked(ask=("from", "root"), word=("end",), table=TABLE)[0], "not")

    def test_small_tables_against_all_keepings(self):
        seen = {}
        for table in small_tables(70):
            keepings = plain_keepings(table)
            for word, ask in itertools.product(WORDS, asks_of(table)):
                told = self.check(table, word, ask)
                if told != "loose":
                    sure = all(plain_walked(table, keeping, word, ask) for keeping in keepings)
                    self.assertEqual(told, "sure" if sure else "not", (table, word, ask))
                seen[ask[0], told] = seen.get((ask[0], told), 0) + 1
        self.assertEqual(len(seen), 12)
        self.assertGreater(min(seen.values()), 30)

    def test_the_least_key(self):
        """By Python's order of texts, figures ahead of letters."""
        table = tuple((key, "a", last) for key in ("b", "a1", "10", "9") for last in ("b", "10"))
        self.assertEqual(asked(table, ("a",), ("somewhere",)), ("sure", "10"))
        self.assertEqual(asked(table, ("a",), ("among", ("9", "a1", "b"))), ("sure", "9"))
        self.assertEqual(asked(table, ("a",), ("among", ("a1", "b"))), ("sure", "a1"))
        self.assertEqual(asked(table, ("a", "a"), ("into", ("10", "b"))), ("sure", "10"))

    def test_keys_that_are_called_as_asks_are(self):
        keys = ("among", "from", "into", "somewhere")
        table = tuple((key, "a", last) for key in keys[1:] for last in keys[1:3]) + (("into", "b", "among"),)
        self.assertEqual(asked(table, ("a",), ("from", "somewhere")), ("sure", "somewhere"))
        self.assertEqual(asked(table, ("a",), ("from", "among"))[0], "not")
        self.assertEqual(asked(table, ("a",), ("among", ("among", "into"))), ("sure", "into"))
        self.assertEqual(asked(table, ("b",), ("into", ("among",))), ("sure", "into"))
        self.assertEqual(asked(table, ("a",), ("somewhere",)), ("sure", "from"))
        for word, ask in itertools.product((("a",), ("b",), ("a", "b")), asks_of(table)):
            self.check(table, word, ask)

    def test_asks_with_no_keys(self):
        for table in small_tables(60):
            for word in ((), ("a",), ("a", "b")):
                for ask in (("into", ()), ("among", ())):
                    self.assertEqual(self.check(table, word, ask), "not")

    def test_great_tables(self):
        rng = random.Random(36)
        seen = {}
        for table in great_tables():
            keys = keys_of(table)
            words = [("a",), ("b", "c"), ("a", "b", "c"), ("a",) * 12, *rng.sample(great_words(), 4)]
            for word in words:
                some = tuple(sorted(rng.sample(keys, min(len(keys), 25))))
                for ask in (("somewhere",), ("from", rng.choice(keys)), ("among", some), ("into", some), ("into", keys)):
                    told = self.check(table, word, ask)
                    seen[told] = seen.get(told, 0) + 1
        self.assertGreater(min(seen["sure"], seen["not"], seen["loose"]), 3)

    def test_a_sure_word_is_walked_in_each_keeping(self):
        for keeping in plain_keepings(TABLE):
            self.assertEqual(chain(TABLE, keeping, "root", ("next", "end"))[-1], "leaf")


class TestFreed(unittest.TestCase):
    def test_told_ones(self):
        self.assertEqual(freed(TABLE, ("next", "end")), (("root", "next"),))
        self.assertEqual(freed(TABLE, ("end",)), (("root", "next"),))
        self.assertEqual(freed(TABLE, ()), (("root", "next"),))
        table = TABLE[:3]
        # Left alone it would be walked: so it makes a difference.
        self.assertEqual(clashes(table), (("root", "next"),))
        self.assertEqual(freed(table, ("next", "end")), ())
        self.assertEqual(freed(table, ("next",)), (("root", "next"),))
        self.assertEqual(freed(word=("next",), table=table), (("root", "next"),))
        self.assertEqual(freed((), ("a",)), ())
        self.assertEqual(freed((("a", "a", "a"),), ("a",)), ())

    def test_a_settling_that_would_leave_a_key_that_no_other_row_tells(self):
        # "y" and "z" are told by this clash alone; their crossings stay, whichever is left.
        table = (("x", "a", "y"), ("x", "a", "z"))
        for word in SHORT_WORDS:
            self.assertEqual(freed(table, word), (("x", "a"),))
        table = (("x", "a", "y"), ("x", "a", "z"), ("z", "b", "z"))
        self.assertEqual(freed(table, ("a",)), (("x", "a"),))
        self.assertEqual(freed(table, ("a", "b")), ())
        self.assertEqual(freed(table, ("b",)), (("x", "a"),))

    def test_small_tables(self):
        told = {True: 0, False: 0}
        for table in small_tables(150):
            before = look(table)
            for word in SHORT_WORDS:
                free = freed(table, word)
                self.assertEqual(look(free), look(plain_freed(table, word)), (table, word))
                for spot in clashes(table):
                    told[spot in free] += 1
                self.assertLessEqual(set(free), set(clashes(table)))
            self.assertEqual(look(table), before)
        self.assertGreater(min(told.values()), 300)

    def test_great_tables(self):
        seen = set()
        for table in great_tables():
            for word in (("a",), ("a", "b", "c"), ("c", "b") * 6):
                free = freed(table, word)
                self.assertEqual(free, plain_freed(table, word))
                seen |= {spot in free for spot in clashes(table)}
        self.assertEqual(seen, {True, False})


if __name__ == "__main__":
    unittest.main()
