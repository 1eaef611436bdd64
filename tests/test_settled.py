"""Points 2, 3 (g) and 27: settled askers, asked somewhere."""

import itertools
import random
import unittest

from tests.helper import (
    great_webs, has_plain_stretch, make_asker, make_web, plain_asked_marks, plain_lacking, plain_reads,
    plain_unsettled, reads_long, rows_of, small_askers, small_webs, some_asker, some_web, worlds_of)
from woundwalks.askers import asker_of, reads_plainly
from woundwalks.errors import Unsettled
from woundwalks.settled import asked_somewhere, unsettled
from woundwalks.worlds import starts

# Askers of 8 stands whose least rows have many names, found by trying.
LONG = (
    (8, ((0, "d", 5), (1, "c", 3), (2, "a", 6), (2, "b", 4), (3, "a", 6), (3, "c", 1), (3, "c", 2), (4, "c", 7),
         (5, "c", 1), (5, "c", 7), (6, "c", 2), (6, "c", 7), (7, "c", 1)), (6,),
     (("a", (6,)), ("b", (4,)), ("c", (7, 1, 3, 2)), ("d", (5,)))),
    (8, ((0, "b", 7), (1, "a", 1), (1, "b", 6), (2, "b", 3), (2, "b", 6), (3, "a", 5), (3, "b", 3), (4, "a", 1),
         (5, "a", 5), (5, "b", 6), (6, "a", 1), (6, "b", 4), (6, "b", 7), (7, "a", 2)), (1,),
     (("a", (2, 5, 1)), ("b", (7, 3, 4, 6)))),
    (8, ((0, "c", 4), (1, "c", 6), (3, "a", 7), (3, "b", 2), (3, "c", 6), (4, "c", 3), (4, "c", 6), (5, "a", 7),
         (6, "a", 1), (6, "a", 5), (6, "b", 2), (7, "a", 1), (7, "c", 3)), (2,),
     (("a", (1, 7, 5)), ("b", (2,)), ("c", (4, 6, 3)))),
)


def askers_to_eight(many):
    """Askers of at most 8 stands, few of which are good, so that not all are settled."""
    rng = random.Random(27)
    told = []
    while len(told) < many:
        stands = rng.randint(2, 8)
        asker = some_asker(rng, stands, "abcd"[:rng.randint(1, 4)], rng.randint(stands - 1, 3 * stands))
        goods = tuple(sorted(rng.sample(range(1, stands), rng.randint(1, min(2, stands - 1)))))
        told.append(asker[:2] + (goods,) + asker[3:])
    return told


def plain_least(asker, longest):
    """Of all rows to so many names the shortest, least that is read and has no stretch that is read plainly."""
    names = sorted({name for _, name, _ in asker[1]})
    for row in rows_of(names, longest):
        if plain_reads(asker, row, 0, False) and not has_plain_stretch(asker, row):
            return row
    return None


def read_rows(asker, longest):
    """All rows to so many names that are read plainly."""
    names = sorted({name for _, name, _ in asker[1]})
    return [row for row in rows_of(names, longest) if reads_plainly(asker, row)]


def walks_plainly(web, world, asker):
    """The crossings from which a row of any length is walked that the asker reads plainly: a search
    through all (crossing, stand)."""
    arm = {post[:2]: arm for post, arm in zip(web[1], world)}
    told = []
    for start in range(web[0]):
        line = [(start, 0)]
        for c, s in line:
            line += [(arm[c, name], to) for at, name, to in asker[1] if at == s and (c, name) in arm
                     and (arm[c, name], to) not in line]
        if any(s in asker[2] for _, s in line):
            told.append(start)
    return told


class TestUnsettled(unittest.TestCase):
    def test_told_ones(self):
        # From 2 one may step back to 1, and is good there: so "a" is read, and plainly "a", "a" alone.
        asker = make_asker(3, [(0, "a", 2), (2, "a", 1)], [1], {"a": (1, 2)})
        self.assertEqual(unsettled(asker), ("a",))
        self.assertIsNone(unsettled(make_asker(3, [(0, "a", 1), (1, "a", 2)], [1], {"a": (1, 2)})))
        asker = make_asker(4, [(0, "a", 2), (0, "b", 3), (2, "a", 1)], [1], {"a": (1, 2), "b": (3,)})
        self.assertEqual(unsettled(asker), ("a",))

    def test_none_good_and_the_beginning_good(self):
        for asker in small_askers(80):
            self.assertIsNone(unsettled(asker[:2] + ((),) + asker[3:]))
            # () is read plainly there, and is a stretch of each row.
            self.assertIsNone(unsettled(asker[:2] + ((0,),) + asker[3:]))
            self.assertIsNone(unsettled(asker[:2] + (tuple(range(asker[0])),) + asker[3:]))
        self.assertIsNone(unsettled((1, (), (), ())))
        self.assertIsNone(unsettled((1, (), (0,), ())))

    def test_against_all_rows_of_few_names(self):
        sizes = {}
        for asker in [*small_askers(200), *askers_to_eight(1500)]:
            names = len({name for _, name, _ in asker[1]})
            longest = {0: 1, 1: 9, 2: 6, 3: 4}.get(names, 3)
            told = unsettled(asker)
            least = plain_least(asker, longest)
            if told is None or len(told) > longest:
                self.assertIsNone(least, asker)
            else:
                self.assertEqual(told, least, asker)
            size = None if told is None else len(told)
            sizes[size] = sizes.get(size, 0) + 1
        self.assertGreaterEqual(len(sizes), 5)
        self.assertGreater(sizes[None], 100)

    def test_against_a_search_by_all_stands(self):
        sizes = {}
        for asker in [*askers_to_eight(1500), *LONG]:
            told = unsettled(asker)
            self.assertEqual(told, plain_unsettled(asker), asker)
            if told is not None:
                self.assertTrue(reads_long(asker, told, 0, False))
                self.assertFalse(has_plain_stretch(asker, told))
            size = None if told is None else len(told)
            sizes[size] = sizes.get(size, 0) + 1
        self.assertGreaterEqual(len(sizes), 8)

    def test_long_rows(self):
        self.assertEqual([len(unsettled(asker)) for asker in LONG], [15, 14, 14])

    def test_eight_stands_and_as_many_ways_as_may_be(self):
        rng = random.Random(28)
        for names, ways in itertools.product(("a", "ab", "abc", "abcdefg"), (20, 40, 56)):
            for _ in range(4):
                asker = some_asker(rng, 8, names, ways)
                asker = asker[:2] + ((rng.randrange(1, 8),),) + asker[3:]
                self.assertEqual(unsettled(asker), plain_unsettled(asker))

    def test_words_are_settled_where_they_are_steady(self):
        seen = set()
        for word in [*rows_of("ab", 7), *itertools.islice(rows_of("abc", 7), 0, None, 13)]:
            told = unsettled(asker_of(word))
            self.assertEqual(told, plain_lacking(word, "steady"), word)
            seen.add(told is None)
        self.assertEqual(len(seen), 2)

    def test_by_names(self):
        self.assertEqual(unsettled(asker=LONG[0]), unsettled(LONG[0]))


class TestAskedSomewhere(unittest.TestCase):
    def check(self, web, asker):
        row = plain_unsettled(asker)
        if row is not None:
            with self.assertRaises(Unsettled) as caught:
                asked_somewhere(web, asker)
            self.assertIs(type(caught.exception), Unsettled)
            self.assertEqual(vars(caught.exception), {"row": row})
            return "unsettled"
        told = asked_somewhere(web, asker)
        self.assertIs(type(told), tuple)
        least = [crossing for crossing, stand in sorted(plain_asked_marks(web, asker, None)) if stand == 0][:1]
        if least:
            self.assertEqual(told, ("sure", least[0]))
        else:
            self.assertEqual((len(told), told[0]), (2, "not"))
            self.assertTrue(type(told[1]) is tuple and len(told[1]) == len(web[1]))
            self.assertTrue(all(arm in arms for arm, (_, _, arms) in zip(told[1], web[1])))
            self.assertEqual(walks_plainly(web, told[1], asker), [])
        return told[0]

    def test_told_ones(self):
        asker = make_asker(3, [(0, "a", 1), (1, "a", 1), (1, "b", 2)], [2], {"a": (1,), "b": (2,)})
        web = make_web(3, {(1, "a"): (2,), (2, "b"): (2,)})
        self.assertEqual(asked_somewhere(web, asker), ("sure", 1))
        web = make_web(3, {(0, "a"): (0, 1), (1, "a"): (0, 2), (2, "b"): (2,)})
        self.assertEqual(asked_somewhere(web, asker)[0], "not")
        self.assertEqual(asked_somewhere((0, ()), asker), ("not", ()))
        self.assertEqual(asked_somewhere((0, ()), (1, (), (0,), ())), ("not", ()))
        self.assertEqual(asked_somewhere((2, ()), (1, (), (0,), ())), ("sure", 0))
        self.assertEqual(asked_somewhere((2, ()), (1, (), (), ())), ("not", ()))

    def test_small_webs_against_all_worlds(self):
        rng = random.Random(29)
        seen = {}
        askers = [*small_askers(60), *askers_to_eight(120)]
        for web in small_webs(60):
            for asker in rng.sample(askers, 25):
                told = self.check(web, asker)
                seen[told] = seen.get(told, 0) + 1
                if told != "unsettled":
                    everywhere = all(walks_plainly(web, world, asker) for world in worlds_of(web))
                    self.assertIs(told == "sure", everywhere, (web, asker))
        self.assertEqual(len(seen), 3)
        self.assertGreater(min(seen.values()), 100)

    def test_against_rows_of_few_names(self):
        for web in small_webs(30):
            for asker in small_askers(40)[::3]:
                if plain_unsettled(asker) is None:
                    told = asked_somewhere(web, asker)
                    rows = read_rows(asker, 4)
                    if told[0] == "not":
                        self.assertFalse(any(starts(web, told[1], row) for row in rows))

    def test_refused_whatever_the_web(self):
        for web in ((0, ()), (1, ()), make_web(2, {(0, "a"): (0, 1)})):
            for asker in LONG:
                self.assertEqual(self.check(web, asker), "unsettled")

    def test_great_webs(self):
        rng = random.Random(30)
        askers = [asker for asker in askers_to_eight(200) if len(asker[3]) == 3]
        webs = [some_web(rng, 40, "abc", posts, arms, near) for posts in (60, 120)
                for arms, near in ((1, 3), (2, 3), (3, 3), (8, 8), (8, None))]
        seen = {}
        for web in webs + [web for web, _, _ in great_webs()[-3:]]:
            for asker in rng.sample(askers, 12):
                told = self.check(web, asker)
                seen[told] = seen.get(told, 0) + 1
        self.assertEqual(len(seen), 3)
        self.assertGreater(min(seen.values()), 10)

    def test_by_names(self):
        asker = make_asker(2, [(0, "a", 1), (1, "a", 1)], [1], {"a": (1,)})
        web = make_web(2, {(1, "a"): (0, 1)})
        self.assertEqual(asked_somewhere(asker=asker, web=web), ("sure", 1))


if __name__ == "__main__":
    unittest.main()
