"""Points 2, 24 and 25: askers, and the rows that they read."""

import itertools
import random
import unittest

from tests.helper import (
    SMALL_WORDS, great_askers, great_words, least_course, look, make_asker, nested, odd_things, plain_asker,
    plain_reads, reads_long, rows_of, small_askers, some_asker, spoilt)
from woundwalks.askers import asker_of, is_asker, reads, reads_plainly
from woundwalks.winding import is_wound

ASKER = (4, ((0, "a", 1), (0, "a", 2), (1, "b", 3), (3, "a", 2)), (3,), (("a", (2, 1)), ("b", (3,))))


def ring(many, ways):
    """An asker of so many stands and so many ways, all of one NAME."""
    told = [(stand, "a", stand % (many - 1) + 1) for stand in range(many - 1)]
    told += [way for way in itertools.product(range(many), ["a"], range(1, many)) if way not in told]
    return make_asker(many, told[:ways], [many - 1], {"a": tuple(range(1, many))})


class TestIsAsker(unittest.TestCase):
    def check(self, thing):
        before = look(thing)
        told = is_asker(thing)
        self.assertIs(told, plain_asker(thing), thing)
        self.assertEqual(look(thing), before)
        return told

    def test_told_ones(self):
        for thing in (ASKER, (1, (), (), ()), (1, (), (0,), ()), (2, ((0, "a", 1),), (), (("a", (1,)),)),
                      (2, ((1, "a", 1),), (0, 1), (("a", (1,)),)),
                      (3, ((0, "abcdef", 1), (0, "b", 2)), (2,), (("abcdef", (1,)), ("b", (2,))))):
            self.assertIs(is_asker(thing), True, thing)
            self.check(thing)

    def test_numbers_of_stands(self):
        self.assertIs(is_asker((0, (), (), ())), False)
        self.assertIs(is_asker((True, (), (), ())), False)
        self.assertIs(is_asker((1, (), (), ())), True)
        self.assertEqual([is_asker(ring(many, 60)) for many in (2, 3, 9, 15, 16, 17, 18)], [True] * 5 + [False] * 2)
        self.assertEqual(ring(17, 60)[0], 17)

    def test_numbers_of_ways(self):
        for many in (9, 16):
            for ways in (59, 60, 61, 62):
                asker = ring(many, ways)
                self.assertEqual(len(asker[1]), ways)
                self.assertIs(is_asker(asker), ways <= 60)

    def test_a_stand_that_no_way_comes_to(self):
        self.assertIs(is_asker((2, (), (), ())), False)
        self.assertIs(is_asker((3, ((0, "a", 1),), (1,), (("a", (1,)),))), False)
        self.assertIs(is_asker((3, ((0, "a", 2), (2, "a", 2)), (1,), (("a", (2,)),))), False)
        self.assertIs(is_asker((3, ((0, "a", 1), (0, "a", 2)), (1,), (("a", (1, 2)),))), True)

    def test_a_stand_that_ways_of_two_names_come_to(self):
        rows = (("a", (1,)), ("b", (1,)))
        self.assertIs(is_asker((2, ((0, "a", 1), (0, "b", 1)), (1,), rows)), False)
        self.assertIs(is_asker((2, ((0, "a", 1), (1, "b", 1)), (1,), rows)), False)
        self.assertIs(is_asker((2, ((0, "a", 1), (1, "a", 1)), (1,), rows[:1])), True)
        # As many stands in the rows as there are from 1 on, but one of them twice.
        self.assertIs(is_asker((3, ((0, "a", 1), (0, "b", 1)), (1,), rows)), False)

    def test_no_way_leads_to_0(self):
        self.assertIs(is_asker((2, ((0, "a", 1), (1, "a", 0)), (1,), (("a", (0, 1)),))), False)
        self.assertIs(is_asker((2, ((0, "a", 1), (1, "a", 0)), (1,), (("a", (1,)),))), False)
        self.assertIs(is_asker((1, ((0, "a", 0),), (0,), (("a", (0,)),))), False)

    def test_rows_in_other_orders(self):
        ways, goods = ((0, "a", 1), (0, "a", 2), (1, "b", 3), (1, "b", 4), (2, "a", 5)), (3,)
        for first in itertools.permutations((1, 2, 5)):
            for second in itertools.permutations((3, 4)):
                self.assertIs(is_asker((6, ways, goods, (("a", first), ("b", second)))), True)
                self.assertIs(is_asker((6, ways, goods, (("b", second), ("a", first)))), False)
        for rows in ((("a", (1, 2)), ("b", (3, 4))), (("a", (1, 2, 5)), ("b", (3,))), (("a", (1, 2, 5)),), (),
                     (("a", (1, 2, 5, 5)), ("b", (3, 4))), (("a", (1, 2, 2)), ("b", (3, 4))),
                     (("a", (1, 2, 5)), ("b", (3, 4)), ("c", ())), (("a", (1, 2, 5)), ("b", (3, 4)), ("b", (3, 4))),
                     (("a", (1, 2, 5)), ("a", (1, 2, 5)), ("b", (3, 4))), (("a", (1, 2, 3)), ("b", (5, 4))),
                     (("a", (0, 1, 2, 5)), ("b", (3, 4))), (("b", (1, 2, 5)), ("a", (3, 4))),
                     (("a", [1, 2, 5]), ("b", (3, 4))), (["a", (1, 2, 5)], ("b", (3, 4))), [("a", (1, 2, 5)), ("b", (3, 4))],
                     (("a", (True, 2, 5)), ("b", (3, 4))), (("a", (1, 2, 6)), ("b", (3, 4)))):
            self.assertIs(is_asker((6, ways, goods, rows)), False, rows)

    def test_ways_and_goods(self):
        many, ways, goods, rows = ASKER
        for other in (ways[::-1], ways + ways[-1:], ways[:1] + ways, list(ways), ways + ((4, "a", 1),),
                      ways + ((3, "a", 4),), ((-1, "a", 1),) + ways, ways[:-1] + ((3, "A", 2),), ways[:-1] + ((3, "", 2),),
                      ways[:-1] + ((3, "a"),), ways[:-1] + ((3, "a", 2, 2),), ways[:-1] + ((3, "a", True),),
                      ((False, "a", 1),) + ways[1:], ((0, "aaaaaaa", 1),) + ways[1:]):
            self.assertIs(is_asker((many, other, goods, rows)), False)
        for other in ((), (0,), (0, 1, 2, 3), (2,)):
            self.assertIs(is_asker((many, ways, other, rows)), True)
        for other in ((4,), (-1,), (1, 1), (2, 1), [3], None, 3, (True,), ("3",), range(2)):
            self.assertIs(is_asker((many, ways, other, rows)), False)
        for other in (3, 5, "4", None, True, (4,)):
            self.assertIs(is_asker((other, ways, goods, rows)), False)

    def test_by_chance(self):
        for asker in [*small_askers(120), *great_askers()]:
            self.assertIs(self.check(asker), True)

    def test_spoilt_ones(self):
        for asker in (ASKER, (1, (), (0,), ()), (2, ((0, "a", 1), (1, "a", 1)), (1,), (("a", (1,)),))):
            for thing in spoilt(asker):
                self.check(thing)

    def test_of_anything(self):
        for thing in odd_things():
            self.assertIs(is_asker(thing), False)
            self.assertIs(is_asker((thing, (), (), ())), False)
            empty = type(thing) is tuple and not thing
            self.assertIs(is_asker((1, thing, (), ())), empty)
            self.assertIs(is_asker((1, (), thing, ())), empty)
            self.assertIs(is_asker((1, (), (), thing)), empty)
            for other in ((2, (thing,), (), ()), (2, ((thing, "a", 1),), (), (("a", (1,)),)),
                          (2, ((0, thing, 1),), (), (("a", (1,)),)), (2, ((0, "a", thing),), (), (("a", (1,)),)),
                          (2, ((0, "a", 1),), (), (thing,)), (2, ((0, "a", 1),), (), ((thing, (1,)),)),
                          (2, ((0, "a", 1),), (), (("a", thing),)), (2, ((0, "a", 1),), (), (("a", (thing,)),)),
                          (2, ((0, "a", 1),), (thing,), (("a", (1,)),))):
                self.check(other)
        self.assertIs(is_asker((nested(tuple, 18),) * 4), False)


class TestAskerOf(unittest.TestCase):
    def test_told_ones(self):
        self.assertEqual(asker_of(()), (1, (), (0,), ()))
        self.assertEqual(asker_of(("a",)), (2, ((0, "a", 1),), (1,), (("a", (1,)),)))
        self.assertEqual(asker_of(("b", "a", "b")), (
            4, ((0, "b", 1), (1, "a", 2), (2, "b", 3)), (3,), (("a", (2,)), ("b", (1, 3)))))

    def test_words_of_none_to_twelve_names(self):
        sizes = set()
        for word in [*SMALL_WORDS, *great_words(), *[word[:size] for word in great_words()[::3] for size in range(12)]]:
            sizes.add(len(word))
            told = asker_of(word)
            self.assertIs(is_asker(told), True)
            rows = tuple((name, tuple(k for k in range(1, len(word) + 1) if word[k - 1] == name))
                         for name in sorted(set(word)))
            ways = tuple((k, word[k], k + 1) for k in range(len(word)))
            self.assertEqual(told, (len(word) + 1, ways, (len(word),), rows))
        self.assertEqual(sizes, set(range(13)))

    def test_it_reads_what_is_wound(self):
        for word in SMALL_WORDS:
            asker = asker_of(word)
            for row in itertools.islice(rows_of(sorted(set(word)) + ["z"], len(word) + 2), 0, None, 3):
                self.assertIs(reads_plainly(asker, row), row == word)
                for place in range(len(word) + 1):
                    self.assertIs(reads(asker, row, stand=place), is_wound(word, row, place=place))
        for word in great_words()[::4]:
            self.assertIs(reads_plainly(asker_of(word), word), True)
            row = word * 33
            self.assertIs(reads(asker_of(word), row), least_course(word, row, 0) is not None)


class TestReads(unittest.TestCase):
    def check(self, asker, row, plain):
        for stand in range(asker[0]):
            for call, plainly in ((reads, False), (reads_plainly, True)):
                told = call(asker, row, stand=stand)
                self.assertIs(told, plain(asker, row, stand, plainly), (asker, row, stand, plainly))
                self.seen[plainly, told] = self.seen.get((plainly, told), 0) + 1

    def setUp(self):
        self.seen = {}

    def test_told_ones(self):
        self.assertIs(reads(ASKER, ("a", "b")), True)
        self.assertIs(reads_plainly(ASKER, ("a", "b")), True)
        self.assertIs(reads(ASKER, ("a", "b", "a", "b")), False)
        # The row of "a" has 2 ahead of 1: from 1 one may step back to 2, not the other way.
        asker = (4, ((0, "a", 1), (0, "a", 2), (2, "b", 3), (3, "a", 1)), (3,), (("a", (2, 1)), ("b", (3,))))
        self.assertIs(reads(asker, ("b",), stand=1), True)
        self.assertIs(reads_plainly(asker, ("b",), stand=1), False)
        self.assertIs(reads(asker, ("a", "b", "a", "b")), True)
        self.assertIs(reads_plainly(asker, ("a", "b", "a", "b")), False)

    def test_the_row_of_no_names(self):
        asker = (3, ((0, "a", 1), (0, "a", 2)), (2,), (("a", (2, 1)),))
        self.assertEqual([reads(asker, (), stand=stand) for stand in range(3)], [False, True, True])
        self.assertEqual([reads_plainly(asker, (), stand=stand) for stand in range(3)], [False, False, True])
        self.assertIs(reads((1, (), (0,), ()), ()), True)
        self.assertIs(reads((1, (), (), ()), ()), False)
        for asker in [*small_askers(120), *great_askers()]:
            self.check(asker, (), plain_reads)
        self.assertEqual(len(self.seen), 4)

    def test_against_trying_all(self):
        for asker in small_askers(120):
            for row in rows_of("ab", 5):
                self.check(asker, row, plain_reads)
            for row in (("c",), ("a", "c"), ("c", "a")):
                self.check(asker, row, plain_reads)
        self.assertGreater(min(self.seen.values()), 1000)

    def test_great_askers(self):
        rng = random.Random(25)
        for asker in great_askers():
            names = sorted({name for _, name, _ in asker[1]})
            for size in (1, 2, 3, 5, 9, 20):
                for _ in range(3):
                    self.check(asker, tuple(rng.choice(names) for _ in range(size)), reads_long)
        self.assertGreater(min(self.seen.values()), 100)

    def test_rows_of_400_names(self):
        rng = random.Random(26)
        for asker in [*small_askers(60)[::3], *great_askers()]:
            names = sorted({name for _, name, _ in asker[1]}) or ["a"]
            for row in (("a",) * 400, tuple(rng.choice(names) for _ in range(400)), tuple((names * 400)[:400])):
                for stand in (0, asker[0] - 1):
                    self.assertIs(reads(asker, row, stand=stand), reads_long(asker, row, stand, False))
                    told = reads_plainly(asker, row, stand=stand)
                    self.assertIs(told, reads_long(asker, row, stand, True))
                    self.seen[told] = True
        self.assertEqual(len(self.seen), 2)

    def test_other_orders_tell_otherwise(self):
        rng = random.Random(27)
        unlike = 0
        for asker in [some_asker(rng, 5, "a", 9) for _ in range(30)]:
            turned = asker[:3] + (tuple((name, stands[::-1]) for name, stands in asker[3]),)
            for row in rows_of("a", 4):
                self.check(turned, row, plain_reads)
                unlike += reads(asker, row) != reads(turned, row)
        self.assertGreater(unlike, 3)

    def test_left_out_and_said(self):
        for asker in small_askers(60):
            for row in rows_of("ab", 3):
                for call in (reads, reads_plainly):
                    told = call(asker, row)
                    self.assertIs(call(asker, row, stand=0), told)
                    self.assertIs(call(stand=0, row=row, asker=asker), told)
        for call in (reads, reads_plainly):
            with self.assertRaises(TypeError):
                call(ASKER, (), 0)
        self.assertIs(is_asker(thing=ASKER), True)
        self.assertEqual(asker_of(word=("a",)), asker_of(("a",)))


if __name__ == "__main__":
    unittest.main()
