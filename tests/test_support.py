"""Points 2, 3 (h) and 30: the posts that a paper uses, and webs held to some posts."""

import itertools
import random
import unittest

from tests.helper import (
    great_webs, is_plain_paper, look, make_web, odd_things, plain_web, small_cases, small_webs, some_paper, spoilt)
from woundwalks.beside import knows_more
from woundwalks.errors import NoPaper
from woundwalks.marklooks import shows_marks
from woundwalks.marks import marks_paper
from woundwalks.support import held_to, support

WEB = (3, ((0, "a", (1, 2)), (1, "b", (2,)), (2, "b", (0, 1))))
PAPER = ((0, 2, ("end",)), (1, 2, ("end",)), (2, 2, ("end",)), (1, 1, ("post",)), (2, 1, ("post",)), (0, 0, ("post",)))


def plain_support(word, paper):
    return tuple(sorted({(crossing, word[place]) for crossing, place, ground in paper if ground == ("post",)}))


def papers_of(rng, web, word, goals):
    """Its own paper, beginnings of it, papers of other making."""
    paper = marks_paper(web, word, goals=goals)
    yield from (paper, (), paper[:rng.randint(0, len(paper))])
    if web[0] <= 3:
        yield some_paper(rng, web, word, goals, rng.randint(0, 8))


class TestSupport(unittest.TestCase):
    def check_refused(self, web, word, goals, thing):
        before = look(thing)
        with self.assertRaises(NoPaper) as caught:
            support(web, word, thing, goals=goals)
        self.assertIs(type(caught.exception), NoPaper)
        self.assertEqual(vars(caught.exception), {})
        self.assertEqual(look(thing), before)

    def test_told_ones(self):
        self.assertEqual(support(WEB, ("a", "b"), PAPER), ((0, "a"), (1, "b"), (2, "b")))
        self.assertEqual(support(WEB, ("a", "b"), PAPER[:4]), ((1, "b"),))
        self.assertEqual(support(WEB, ("a", "b"), PAPER[:3]), ())
        self.assertEqual(support(WEB, ("a", "b"), ()), ())
        self.assertEqual(support(goals=None, paper=PAPER, word=("a", "b"), web=WEB), ((0, "a"), (1, "b"), (2, "b")))
        # One post may do for several places; a row by winding back needs none.
        web = (1, ((0, "a", (0,)), (0, "b", (0,))))
        paper = ((0, 3, ("end",)), (0, 2, ("post",)), (0, 1, ("post",)), (0, 0, ("post",)))
        self.assertEqual(support(web, ("a", "a", "a"), paper), ((0, "a"),))
        web = (3, ((0, "a", (1,)), (1, "a", (2,)), (2, "b", (2,))))
        paper = ((2, 3, ("end",)), (2, 2, ("post",)), (1, 1, ("post",)), (1, 2, ("back", 1)), (0, 1, ("post",)))
        self.assertEqual(support(web, ("a", "a", "b"), paper, goals=(2,)), ((0, "a"), (1, "a"), (2, "b")))
        self.assertEqual(support(web, ("a", "a", "b"), paper[:4], goals=(2,)), ((1, "a"), (2, "b")))

    def test_goals_are_looked_at(self):
        self.check_refused(WEB, ("a", "b"), (0, 1), PAPER)
        self.check_refused(WEB, ("a", "b"), (), PAPER)
        self.assertEqual(support(WEB, ("a", "b"), PAPER, goals=(0, 1, 2)), support(WEB, ("a", "b"), PAPER))
        with self.assertRaises(TypeError):
            support(WEB, ("a", "b"), PAPER, None)

    def test_small_webs(self):
        rng = random.Random(30)
        sizes = {}
        for web, word, goals in small_cases(60):
            for paper in papers_of(rng, web, word, goals):
                told = support(web, word, paper, goals=goals)
                self.assertEqual(look(told), look(plain_support(word, paper)))
                sizes[len(told)] = sizes.get(len(told), 0) + 1
        self.assertGreater(len(sizes), 5)

    def test_great_webs(self):
        rng = random.Random(31)
        most = 0
        for web, word, goals in great_webs():
            for paper in papers_of(rng, web, word, goals):
                told = support(web, word, paper, goals=goals)
                self.assertEqual(told, plain_support(word, paper))
                most = max(most, len(told))
        self.assertEqual(most, 120)

    def test_spoilt_papers(self):
        kept = 0
        for web, word, goals, paper in ((WEB, ("a", "b"), None, PAPER), (WEB, ("a", "b"), (2,), PAPER[2:3])):
            for thing in spoilt(paper):
                if is_plain_paper(web, word, goals, thing):
                    self.assertEqual(support(web, word, thing, goals=goals), plain_support(word, thing))
                    kept += 1
                else:
                    self.check_refused(web, word, goals, thing)
        self.assertGreater(kept, 3)

    def test_of_anything(self):
        for web, word, goals in itertools.islice(small_cases(30), 0, None, 31):
            for thing in odd_things():
                if type(thing) is tuple and not thing:
                    self.assertEqual(support(web, word, thing, goals=goals), ())
                else:
                    self.check_refused(web, word, goals, thing)
                self.check_refused(web, word, goals, (thing,))
                self.check_refused(web, word, goals, [thing])

    def test_the_paper_holds_for_all_webs_that_know_more_of_its_posts(self):
        rng = random.Random(32)
        used = lost = 0
        cases = itertools.chain(itertools.islice(small_cases(60), 0, None, 2), great_webs())
        for web, word, goals in cases:
            for paper in papers_of(rng, web, word, goals):
                pairs = support(web, word, paper, goals=goals)
                held = held_to(web, pairs)
                self.assertIs(shows_marks(held, word, paper, goals=goals), True)
                self.assertEqual(support(held, word, paper, goals=goals), pairs)
                # Fewer arms, and other posts, of whatever arms, beside these.
                posts = {post[:2]: rng.sample(post[2], rng.randint(1, len(post[2]))) for post in held[1]}
                for crossing, name in itertools.product(range(web[0]), "abc"):
                    if (crossing, name) not in posts and rng.random() < 0.5 and len(posts) < 120:
                        posts[crossing, name] = rng.sample(range(web[0]), rng.randint(1, min(8, web[0])))
                other = make_web(web[0], posts)
                self.assertTrue(plain_web(other) and knows_more(other, held))
                self.assertIs(shows_marks(other, word, paper, goals=goals), True)
                # Without one of its posts it is none.
                for pair in pairs[:3]:
                    less = held_to(web, tuple(one for one in pairs if one != pair))
                    self.assertIs(shows_marks(less, word, paper, goals=goals), False)
                    lost += 1
                used += len(pairs)
        self.assertGreater(min(used, lost), 1000)


class TestHeldTo(unittest.TestCase):
    def test_told_ones(self):
        self.assertEqual(held_to(WEB, ()), (3, ()))
        self.assertEqual(held_to(WEB, ((2, "b"), (0, "a"))), (3, ((0, "a", (1, 2)), (2, "b", (0, 1)))))
        self.assertEqual(held_to(WEB, ((2, "b"), (2, "b"))), (3, ((2, "b", (0, 1)),)))
        self.assertEqual(held_to(WEB, ((2, "a"), (0, "b"), (9, "a"), (1, "c"))), (3, ()))
        self.assertEqual(held_to(WEB, ((0, "a"), (1, "b"), (2, "b"))), WEB)
        self.assertEqual(held_to(pairs=((1, "b"),), web=WEB), (3, ((1, "b", (2,)),)))
        self.assertEqual(held_to((0, ()), ()), (0, ()))
        self.assertEqual(held_to((0, ()), ((0, "a"),)), (0, ()))

    def test_small_webs_and_all_pairs(self):
        rng = random.Random(33)
        for web in small_webs(60):
            spots = list(itertools.product(range(web[0] + 1), "abc"))
            for _ in range(20):
                pairs = tuple(rng.sample(spots, rng.randint(0, len(spots))))
                before = look((web, pairs))
                told = held_to(web, pairs)
                self.assertEqual(look(told), look((web[0], tuple(post for post in web[1] if post[:2] in set(pairs)))))
                self.assertEqual(look((web, pairs)), before)
                self.assertIs(knows_more(web, told), True)

    def test_great_webs(self):
        for web, _, _ in great_webs()[::7]:
            spots = tuple(post[:2] for post in web[1])
            self.assertEqual(held_to(web, spots[::-1]), web)
            self.assertEqual(held_to(web, spots[1:]), (40, web[1][1:]))
            self.assertEqual(held_to(web, spots[-1:]), (40, web[1][-1:]))


if __name__ == "__main__":
    unittest.main()
