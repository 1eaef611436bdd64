"""Points 2, 3 (d) and 23: gaps."""

import unittest

from tests.helper import KINDS, SMALL_WORDS, great_words, plain_fails, plain_lacking, plain_marks, plain_web, worlds_of
from woundwalks.answers import by_worlds, share
from woundwalks.asks import is_ask, wanted
from woundwalks.gaps import gap


class TestGap(unittest.TestCase):
    def test_told_ones(self):
        self.assertIsNone(gap(("a", "a", "b"), "late"))
        self.assertEqual(gap(("a", "a", "b"), "firm"), (
            (5, ((0, "a", (1,)), (1, "a", (2,)), (2, "a", (3,)), (3, "b", (4,)))), ("from", 0)))
        self.assertEqual(gap(("a", "b", "b"), "late"), (
            (5, ((0, "a", (1,)), (1, "b", (2,)), (2, "b", (3,)), (3, "b", (4,)))), ("into", (4,))))
        self.assertEqual(gap(tuple("abba"), "steady")[1], ("somewhere",))
        self.assertEqual([gap((), kind) for kind in KINDS], [None] * 3)

    def test_small_and_great_words(self):
        seen = {}
        for word in [*SMALL_WORDS, *great_words()]:
            for kind in KINDS:
                row = plain_lacking(word, kind)
                told = gap(word, kind)
                seen[kind, told is None] = seen.get((kind, told is None), 0) + 1
                if row is None:
                    self.assertIsNone(told)
                    continue
                self.assertIs(type(told), tuple)
                web, ask = told
                many = len(row)
                self.assertEqual(web, (many + 1, tuple((k, row[k], (k + 1,)) for k in range(many))))
                self.assertTrue(plain_web(web))
                self.assertEqual(ask, {"steady": ("somewhere",), "firm": ("from", 0), "late": ("into", (many,))}[kind])
                self.assertTrue(is_ask(web, ask))
                self.assertEqual(wanted(ask), kind)
                for goals in (None, (many,)):
                    self.assertIn((0, 0), plain_marks(web, word, goals))
                (world,) = worlds_of(web)
                self.assertTrue(plain_fails(web, world, word, ask))
                self.assertEqual(by_worlds(web, word, ask), ("not", 0))
                self.assertEqual(share(web, word, ask), (0, 1))
        self.assertEqual(len(seen), 6)
        self.assertGreater(min(seen.values()), 10)

    def test_by_names(self):
        self.assertEqual(gap(kind="firm", word=("a", "a", "b")), gap(("a", "a", "b"), "firm"))


if __name__ == "__main__":
    unittest.main()
