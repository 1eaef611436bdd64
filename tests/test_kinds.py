"""Points 3 (f), 8 and 9: firm, late and steady words, with their papers."""

import itertools
import unittest

from tests.helper import (
    KINDS, SMALL_WORDS, great_words, is_plain_name, lacks, look, odd_things, plain_backs, plain_courses, plain_lacking,
    plain_seen, rows_of, seen_then, spoilt)
from woundwalks.kindlooks import shows_kind
from woundwalks.kinds import is_kind, kind_paper, lacking
from woundwalks.winding import is_wound, wound_rows


def follow(word, kind, pairs):
    """The pairs with all that must be there beside them."""
    told = set(pairs)
    line = list(pairs)
    for place, seen in line:
        if place < len(word):
            then = seen_then(word, kind, seen, word[place])
            new = {(to, then) for to in [place + 1] + plain_backs(word, place + 1)} - told
            told |= new
            line += new
    return told


def all_pairs(word, kind):
    least = -1 if kind == "firm" and word else 0
    return list(itertools.product(range(len(word) + 1), range(least, len(word) + 1)))


def plain_paper(word, kind, thing):
    """Point 9, to the letter."""
    if type(thing) is not tuple or len(thing) != 2 or type(thing[0]) is not str:
        return False
    what, told = thing
    if type(told) is not tuple:
        return False
    if what == "not":
        return (len(told) <= 400 and all(is_plain_name(name) for name in told) and is_wound(word, told)
                and lacks(word, kind, told))
    if what != "so":
        return False
    for pair in told:
        if type(pair) is not tuple or len(pair) != 2 or any(type(part) is not int for part in pair):
            return False
        if pair not in all_pairs(word, kind):
            return False
    bad = [pair for pair in told if pair[0] == len(word) and pair[1] != len(word)]
    return list(told) == sorted(set(told)) and (0, 0) in told and not bad and follow(word, kind, told) == set(told)


class TestLacking(unittest.TestCase):
    def test_told_ones(self):
        self.assertEqual([lacking(tuple("aab"), kind) for kind in KINDS], [tuple("aaab"), None, None])
        self.assertEqual([lacking(tuple("abb"), kind) for kind in KINDS], [None, tuple("abbb"), None])
        self.assertEqual([lacking(tuple("aabb"), kind) for kind in KINDS], [tuple("aaabb"), tuple("aabbb"), None])
        self.assertEqual([lacking((), kind) for kind in KINDS], [None] * 3)
        self.assertEqual([is_kind((), kind) for kind in KINDS], [True] * 3)

    def test_against_all_wound_rows_of_small_words(self):
        for word in SMALL_WORDS:
            longest = 2 * len(word) if len(set(word)) < 3 else len(word) + 3
            rows = [row for row in rows_of(sorted(set(word)), longest) if is_wound(word, row)]
            for kind in KINDS:
                bad = [row for row in rows if lacks(word, kind, row)]
                told = min(bad, key=lambda row: (len(row), row), default=None)
                self.assertEqual(lacking(word, kind), told, (word, kind))
                self.assertEqual(plain_lacking(word, kind), told, (word, kind))
                self.assertIs(is_kind(word, kind), told is None)

    def test_words_of_twelve_names(self):
        told = set()
        for word in great_words():
            for kind in KINDS:
                row = lacking(word, kind)
                self.assertEqual(row, plain_lacking(word, kind), (word, kind))
                self.assertIs(is_kind(word, kind), row is None)
                told.add((kind, row is None))
                if row is not None:
                    self.assertLessEqual(len(row), 23)
                    self.assertIs(is_wound(word, row), True)
                    self.assertTrue(lacks(word, kind, row))
        self.assertEqual(len(told), 6)

    def test_never_more_than_23_names(self):
        longest = 0
        for word in itertools.product("ab", repeat=12):
            for kind in KINDS:
                longest = max(longest, len(lacking(word, kind) or ()))
        self.assertLessEqual(longest, 23)

    def test_no_shorter_and_no_lesser_row_lacks_it(self):
        for word in great_words():
            for kind in KINDS:
                row = lacking(word, kind)
                if row is not None and len(row) <= 14:
                    for size in range(12, len(row) + 1):
                        bad = [other for other in wound_rows(word, size) if lacks(word, kind, other)]
                        self.assertEqual(bad[:1], [row] if size == len(row) else [])


class TestPapers(unittest.TestCase):
    def test_own_papers_are_taken(self):
        for word in list(SMALL_WORDS) + great_words():
            for kind in KINDS:
                paper = kind_paper(word, kind)
                self.assertEqual(paper[0], "so" if is_kind(word, kind) else "not")
                self.assertIs(shows_kind(word, kind, paper), True)
                self.assertIs(plain_paper(word, kind, paper), True)

    def test_a_paper_of_another_kind_or_word_is_looked_at_anew(self):
        words = [tuple(word) for word in ("", "a", "ab", "aa", "aab", "abb", "aba", "aabb", "abab")]
        papers = [kind_paper(word, kind) for word in words for kind in KINDS]
        for word, kind, paper in itertools.product(words, KINDS, papers):
            self.assertIs(shows_kind(word, kind, paper), plain_paper(word, kind, paper), (word, kind, paper))

    def test_other_shut_sets(self):
        taken = 0
        for word in SMALL_WORDS:
            for kind in KINDS:
                told = kind_paper(word, kind)
                for more in all_pairs(word, kind):
                    pairs = tuple(sorted(follow(word, kind, [(0, 0), more])))
                    answer = shows_kind(word, kind, ("so", pairs))
                    self.assertIs(answer, plain_paper(word, kind, ("so", pairs)), (word, kind, pairs))
                    taken += answer and pairs != told[1]
        self.assertGreater(taken, 100)

    def test_shut_sets_of_words_of_twelve_names(self):
        taken = 0
        for word, kind in itertools.product([word for word in great_words()[::3] if len(word) == 12], KINDS):
            pairs = follow(word, kind, [(0, 0)])
            self.assertIs(shows_kind(word, kind, ("so", tuple(sorted(pairs)))), is_kind(word, kind))
            for more in all_pairs(word, kind):
                wider = tuple(sorted(follow(word, kind, pairs | {more})))
                good = all(seen == 12 for place, seen in wider if place == 12)
                self.assertIs(shows_kind(word, kind, ("so", wider)), good)
                taken += good and len(wider) > len(pairs)
        self.assertGreater(taken, 100)

    def test_each_pair_that_is_dropped_is_missed_where_it_is_needed(self):
        for word in (("a",), tuple("aa"), tuple("aba"), tuple("abab"), tuple("abcabcabcabc"), ("a",) * 12):
            for kind in KINDS:
                what, pairs = kind_paper(word, kind)
                self.assertEqual(what, "so")
                for at in range(len(pairs)):
                    less = pairs[:at] + pairs[at + 1:]
                    self.assertIs(shows_kind(word, kind, ("so", less)), False)

    def test_wound_rows_that_lack_it_other_than_the_told_one(self):
        for word in (tuple("aab"), tuple("abb"), tuple("aabb"), tuple("aabaabaab"), tuple("aaaaaabbbbbb")):
            for kind in KINDS:
                for size in range(len(word) - 1, len(word) + 3):
                    for row in wound_rows(word, size):
                        self.assertIs(shows_kind(word, kind, ("not", row)), lacks(word, kind, row))
                        self.assertIs(shows_kind(word, kind, ("not", row + ("x",))), False)
                        shorter = ("not", row[:-1])
                        self.assertIs(shows_kind(word, kind, shorter), plain_paper(word, kind, shorter))

    def test_a_row_of_401_names_is_none(self):
        for size, told in ((399, True), (400, True), (401, False), (402, False), (3000, False)):
            row = ("a",) * (size - 1) + ("b",)
            self.assertIs(shows_kind(("a", "a", "b"), "firm", ("not", row)), told)
            self.assertIs(shows_kind(("a", "b", "b"), "late", ("not", ("a",) + ("b",) * (size - 1))), told)

    def test_spoilt_papers(self):
        for word in ((), ("a",), tuple("aa"), tuple("aab"), tuple("abb")):
            for kind in KINDS:
                paper = kind_paper(word, kind)
                for thing in spoilt(paper):
                    self.assertIs(shows_kind(word, kind, thing), plain_paper(word, kind, thing))

    def test_truths_are_no_numbers(self):
        self.assertIs(shows_kind((), "firm", ("so", ((0, 0),))), True)
        for pair in ((False, 0), (0, False), (False, False), (0, -1), (0, 1), (1, 0), (-1, 0), [0, 0], (0,), (0, 0, 0)):
            for kind in KINDS:
                self.assertIs(shows_kind((), kind, ("so", (pair,))), False)

    def test_one_pair_too_many_that_is_none_of_the_word(self):
        for word in (("a",), tuple("ab"), tuple("aba"), tuple("abcabcabcabc"), ("a",) * 12, tuple("abcdefghijkl")):
            for kind in KINDS:
                pairs = kind_paper(word, kind)[1]
                seen = [-2, len(word) + 1, len(word) + 2, 10 ** 399] + ([] if kind == "firm" else [-1])
                wrong = [*itertools.product(range(len(word) + 1), seen), (-1, 0), (-1, -1), (len(word) + 1, 0),
                         (len(word) + 1, len(word)), (len(word) + 1, len(word) + 1)]
                for more in wrong:
                    self.assertIs(shows_kind(word, kind, ("so", tuple(sorted(pairs + (more,))))), False, (word, more))

    def test_minus_one_is_seen_for_firm(self):
        # From (1, -1) one comes to (1, -1) and (2, -1), a bad end: so no shut set has -1 anywhere below len.
        for pairs in (((0, 0), (1, -1), (1, 1), (1, 2), (2, -1), (2, 2)), ((0, 0), (1, -1), (1, 1), (1, 2), (2, 2))):
            self.assertIs(shows_kind(("a", "a"), "firm", ("so", pairs)), False)
        # Behind a row that has left the word nothing but -1 is seen, also where the word is gone once more.
        self.assertIs(shows_kind(("a", "a", "b"), "firm", ("not", tuple("aaab"))), True)
        self.assertIs(shows_kind(tuple("abba"), "firm", ("not", tuple("abbbabba"))), True)

    def test_of_anything(self):
        for word in ((), ("a",), tuple("aab"), ("a",) * 12):
            for kind in KINDS:
                for thing in odd_things():
                    before = look(thing)
                    self.assertIs(shows_kind(word, kind, thing), False)
                    for what in ("so", "not"):
                        self.assertIs(shows_kind(word, kind, (what, thing)), plain_paper(word, kind, (what, thing)))
                    self.assertEqual(look(thing), before)

    def test_plain_seen_is_what_is_written(self):
        word = tuple("abab")
        self.assertEqual(plain_seen(word, "late", tuple("ababab")), 4)
        self.assertEqual(plain_seen(word, "steady", tuple("ababx")), 4)
        self.assertEqual(plain_seen(word, "firm", tuple("abb")), -1)
        self.assertTrue(plain_courses(word, tuple("ababab"), 0))

    def test_by_names(self):
        self.assertEqual(lacking(kind="firm", word=tuple("aab")), tuple("aaab"))
        self.assertIs(is_kind(kind="late", word=tuple("aab")), True)
        self.assertEqual(kind_paper(kind="firm", word=tuple("aab")), ("not", tuple("aaab")))
        self.assertIs(shows_kind(thing=("not", tuple("aaab")), kind="firm", word=tuple("aab")), True)


if __name__ == "__main__":
    unittest.main()
