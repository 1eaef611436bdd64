"""Points 2 and 17: looking at papers of marks."""

import itertools
import random
import unittest

from tests.helper import (
    great_webs, is_plain_paper, look, odd_things, paper_faults, plain_marks, small_cases, some_paper, spoilt)
from woundwalks.marklooks import shows_marks
from woundwalks.marks import marks_paper

WEB = (3, ((0, "a", (1, 2)), (1, "b", (2,)), (2, "b", (0, 1))))


def changed_papers(rng, web, word, paper):
    """The paper with a row left out, twice, exchanged with another one, with another part."""
    if not paper:
        return
    at, other = rng.randrange(len(paper)), rng.randrange(len(paper))
    row = paper[at]
    yield paper[:at] + paper[at + 1:]
    yield paper[:other] + (row,) + paper[other:]
    yield paper + (row,)
    exchanged = list(paper)
    exchanged[at], exchanged[other] = exchanged[other], exchanged[at]
    yield tuple(exchanged)
    yield paper[::-1]
    for ground in (("end",), ("post",), ("back", rng.randrange(len(word) + 1)), ("back", row[1] - 1), ("back",),
                   ("end", 0), ("post", 0), ("back", 1, 1), (), ("other",)):
        yield paper[:at] + (row[:2] + (ground,),) + paper[at + 1:]
    for place in (-1, len(word), len(word) + 1, rng.randrange(len(word) + 1)):
        yield paper[:at] + ((row[0], place, row[2]),) + paper[at + 1:]
    for crossing in (-1, web[0], rng.randrange(web[0])):
        yield paper[:at] + ((crossing,) + row[1:],) + paper[at + 1:]


class TestShowsMarks(unittest.TestCase):
    def check(self, web, word, goals, thing):
        before = look(thing)
        told = shows_marks(web, word, thing, goals=goals)
        self.assertIs(told, is_plain_paper(web, word, goals, thing), (web, word, goals, thing))
        self.assertEqual(look(thing), before)
        return told

    def test_told_ones(self):
        paper = ((0, 2, ("end",)), (1, 2, ("end",)), (2, 2, ("end",)), (1, 1, ("post",)), (2, 1, ("post",)),
                 (0, 0, ("post",)))
        self.assertIs(shows_marks(WEB, ("a", "b"), paper), True)
        self.assertIs(shows_marks(WEB, ("a", "b"), paper, goals=(0, 1)), False)
        self.assertIs(shows_marks(WEB, ("a", "b"), paper[:4] + paper[5:]), False)
        self.assertIs(shows_marks(WEB, ("a", "b"), paper + paper[:1]), False)
        self.assertIs(shows_marks(WEB, ("a", "b"), list(paper)), False)
        web = (3, ((0, "a", (1,)), (1, "a", (2,)), (2, "b", (2,))))
        paper = ((2, 3, ("end",)), (2, 2, ("post",)), (1, 1, ("post",)), (1, 2, ("back", 1)), (0, 1, ("post",)))
        self.assertIs(shows_marks(web, ("a", "a", "b"), paper, goals=(2,)), True)
        self.assertIs(shows_marks(web, ("a", "a", "b"), paper[:2] + paper[3:], goals=(2,)), False)
        # From 1 to 2 there is no winding back.
        paper = ((2, 3, ("end",)), (2, 2, ("post",)), (2, 1, ("back", 2)))
        self.assertIs(shows_marks(web, ("a", "a", "b"), paper, goals=(2,)), False)

    def test_the_empty_paper(self):
        for web, word, goals in itertools.chain(small_cases(20), great_webs()):
            self.assertIs(shows_marks(web, word, (), goals=goals), True)
            self.assertIs(shows_marks(web, word, [], goals=goals), False)

    def test_its_own_papers_and_their_beginnings(self):
        grounds = set()
        for web, word, goals in itertools.chain(small_cases(60), great_webs()):
            paper = marks_paper(web, word, goals=goals)
            self.assertIs(shows_marks(web, word, paper, goals=goals), True)
            grounds |= {row[2][0] for row in paper}
            step = 1 if len(paper) < 40 else 37
            for size in range(0, len(paper), step):
                self.assertIs(shows_marks(web, word, paper[:size], goals=goals), True)
        self.assertEqual(grounds, {"end", "post", "back"})

    def test_changed_papers(self):
        rng = random.Random(17)
        told = {True: 0, False: 0}
        for web, word, goals in itertools.chain(small_cases(60), great_webs()):
            for thing in changed_papers(rng, web, word, marks_paper(web, word, goals=goals)):
                told[self.check(web, word, goals, thing)] += 1
        self.assertGreater(told[True], 1000)
        self.assertGreater(told[False], 10000)

    def test_papers_of_other_making(self):
        rng = random.Random(18)
        backs = 0
        for web, word, goals in itertools.islice(small_cases(60), 0, None, 4):
            paper = some_paper(rng, web, word, goals, rng.randint(0, 12))
            self.assertEqual(paper_faults(web, word, goals, paper), [])
            self.assertIs(shows_marks(web, word, paper, goals=goals), True)
            self.assertLessEqual({row[:2] for row in paper}, plain_marks(web, word, goals))
            backs += sum(row[2][0] == "back" for row in paper)
            for thing in changed_papers(rng, web, word, paper):
                self.check(web, word, goals, thing)
        self.assertGreater(backs, 30)

    def test_all_papers_of_two_rows(self):
        web = (2, ((0, "a", (1,)), (1, "a", (0, 1))))
        for word, goals in itertools.product((("a", "a"), ("a",), ()), (None, (), (1,))):
            grounds = [("end",), ("post",)] + [("back", place) for place in range(-1, 4)]
            rows = list(itertools.product(range(-1, 3), range(-1, len(word) + 2), grounds))
            for size in range(3):
                for paper in itertools.product(rows, repeat=size):
                    self.assertIs(shows_marks(web, word, paper, goals=goals), is_plain_paper(web, word, goals, paper))

    def test_truths_are_no_numbers(self):
        web = (2, ((0, "a", (1,)), (1, "a", (1,))))
        word = ("a", "a", "a")
        paper = ((1, 3, ("end",)), (1, 2, ("post",)), (1, 1, ("post",)), (0, 1, ("post",)), (0, 2, ("back", 1)),
                 (0, 0, ("post",)))
        self.assertIs(shows_marks(web, word, paper), True)
        for at, row in enumerate(paper):
            for other in ((True,) + row[1:], (False,) + row[1:], (row[0], True, row[2]), (row[0], False, row[2]),
                          row[:2] + (("back", True),)):
                self.assertIs(shows_marks(web, word, paper[:at] + (other,) + paper[at + 1:]), False)

    def test_spoilt_ones(self):
        web = (3, ((0, "a", (1,)), (1, "a", (2,)), (2, "b", (2,))))
        word = ("a", "a", "b")
        paper = ((2, 3, ("end",)), (2, 2, ("post",)), (1, 1, ("post",)), (1, 2, ("back", 1)), (0, 1, ("post",)))
        for goals in (None, (), (2,)):
            for thing in spoilt(paper):
                self.check(web, word, goals, thing)

    def test_of_anything(self):
        for web, word, goals in itertools.islice(small_cases(40), 0, None, 13):
            for thing in odd_things():
                told = type(thing) is tuple and not thing
                self.assertIs(shows_marks(web, word, thing, goals=goals), told)
                self.assertIs(shows_marks(web, word, (thing,), goals=goals), False)
                self.assertIs(shows_marks(web, word, ((thing, len(word), ("end",)),), goals=goals), False)
                self.assertIs(shows_marks(web, word, ((0, thing, ("post",)),), goals=goals), False)
                self.assertIs(shows_marks(web, word, ((0, len(word), thing),), goals=goals), False)
                self.assertIs(shows_marks(web, word, ((0, len(word), (thing,)),), goals=goals), False)
                self.assertIs(shows_marks(web, word, ((0, len(word), ("back", thing)),), goals=goals), False)

    def test_left_out_and_said(self):
        for web, word, _ in itertools.islice(small_cases(40), 0, None, 7):
            everywhere = tuple(range(web[0]))
            paper = marks_paper(web, word)
            for thing in (paper, paper[1:], paper[::-1]):
                told = shows_marks(web, word, thing)
                self.assertIs(shows_marks(web, word, thing, goals=None), told)
                self.assertIs(shows_marks(goals=everywhere, thing=thing, word=word, web=web), told)
        with self.assertRaises(TypeError):
            shows_marks(WEB, ("a",), (), None)


if __name__ == "__main__":
    unittest.main()
